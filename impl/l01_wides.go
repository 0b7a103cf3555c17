package impl

import (
	"math"
	"math/bits"
	"slices"
	"strings"
)

// Error codes.
const (
	OK          = 0
	ErrInvalid  = 1
	ErrRange    = 2
	ErrLimit    = 3
	ErrState    = 4
	ErrSyntax   = 5
	ErrNotFound = 6
	ErrBudget   = 7
	ErrProof    = 8
)

// Limits of wide integers.
const (
	Limbs    = 6
	MaxShift = 191
)

// limbBits is how many bits a limb has.
const limbBits = 32

// Wide is an integer of 192 bits with a sign.
type Wide struct {
	Neg  bool
	Limb [6]uint32
}

// limbs is the size of a wide integer, the lowest limb first.
type limbs [Limbs]uint32

// limbRow is a size with a limb more, which long division needs on top.
type limbRow [Limbs + 1]uint32

// CodeName returns the name of an error code.
func CodeName(code int64) string {
	names := [...]string{"ok", "invalid", "range", "limit", "state", "syntax", "notfound", "budget", "proof"}
	if code < 0 || code >= int64(len(names)) {
		return ""
	}
	return names[code]
}

// ValidWide reports whether a is valid.
func ValidWide(a Wide) bool {
	return !a.Neg || a.Limb != [Limbs]uint32{}
}

// WideOf returns the wide integer with a value.
func WideOf(n int64) Wide {
	size := uint64(n)
	if n < 0 {
		// The wraparound gives the right size for the least int64 as well.
		size = -size
	}
	return wideOfSize(n < 0, limbs{uint32(size), uint32(size >> limbBits)})
}

// NarrowOf returns the value of a wide integer.
func NarrowOf(a Wide) (int64, int64) {
	if !ValidWide(a) {
		return 0, ErrInvalid
	}
	size := uint64(a.Limb[1])<<limbBits | uint64(a.Limb[0])
	n := int64(size)
	if a.Neg {
		n = -n
	}
	// What does not come back is not the value: the conversion has cut something off.
	if WideOf(n) != a {
		return 0, ErrRange
	}
	return n, OK
}

// SignOf returns the sign of a.
func SignOf(a Wide) (int64, int64) {
	if !ValidWide(a) {
		return 0, ErrInvalid
	}
	return signOfValid(a), OK
}

// SizeOf returns how many bits the size of a has.
func SizeOf(a Wide) (int64, int64) {
	if !ValidWide(a) {
		return 0, ErrInvalid
	}
	return limbs(a.Limb).bitCount(), OK
}

// CompareWides compares two wide integers.
func CompareWides(a, b Wide) (int64, int64) {
	if !ValidWide(a) || !ValidWide(b) {
		return 0, ErrInvalid
	}
	if a.Neg != b.Neg {
		if a.Neg {
			return -1, OK
		}
		return 1, OK
	}
	order := limbs(a.Limb).compare(b.Limb)
	if a.Neg {
		return -order, OK
	}
	return order, OK
}

// NegWide returns the opposite.
func NegWide(a Wide) (Wide, int64) {
	if !ValidWide(a) {
		return Wide{}, ErrInvalid
	}
	return wideOfSize(!a.Neg, a.Limb), OK
}

// AddWides returns the sum.
func AddWides(a, b Wide) (Wide, int64) {
	if !ValidWide(a) || !ValidWide(b) {
		return Wide{}, ErrInvalid
	}
	x, y := limbs(a.Limb), limbs(b.Limb)
	if a.Neg == b.Neg {
		sum, over := x.plus(y)
		return wideWithin(a.Neg, sum, over)
	}
	if x.compare(y) >= 0 {
		return wideOfSize(a.Neg, x.minus(y)), OK
	}
	return wideOfSize(b.Neg, y.minus(x)), OK
}

// SubWides returns the difference.
func SubWides(a, b Wide) (Wide, int64) {
	opposite, code := NegWide(b)
	if code != OK {
		return Wide{}, code
	}
	return AddWides(a, opposite)
}

// MulWides returns the product.
func MulWides(a, b Wide) (Wide, int64) {
	if !ValidWide(a) || !ValidWide(b) {
		return Wide{}, ErrInvalid
	}
	product, over := limbs(a.Limb).times(b.Limb)
	return wideWithin(a.Neg != b.Neg, product, over)
}

// ShiftUp returns a times a power of 2.
func ShiftUp(a Wide, by int64) (Wide, int64) {
	if !ValidWide(a) {
		return Wide{}, ErrInvalid
	}
	if by < 0 || by > MaxShift {
		return Wide{}, ErrRange
	}
	size := limbs(a.Limb)
	over := !size.isZero() && size.bitCount()+by > Limbs*limbBits
	return wideWithin(a.Neg, size.up(by), over)
}

// ShiftNear returns what is nearest to a divided by a power of 2.
func ShiftNear(a Wide, by int64) (Wide, int64) {
	if !ValidWide(a) {
		return Wide{}, ErrInvalid
	}
	if by < 0 || by > MaxShift {
		return Wide{}, ErrRange
	}
	if by == 0 {
		return a, OK
	}
	size := limbs(a.Limb)
	near := size.down(by)
	rest := size.minus(near.up(by))
	order := rest.compare(limbs{1}.up(by - 1))
	// Of two that are nearest the greater one has the lesser size if a is negative.
	if order > 0 || order == 0 && !a.Neg {
		near = near.next()
	}
	return wideOfSize(a.Neg, near), OK
}

// DivWides returns the quotient and the rest.
func DivWides(a, b Wide) (Wide, Wide, int64) {
	if !ValidWide(a) || !ValidWide(b) {
		return Wide{}, Wide{}, ErrInvalid
	}
	divisor := limbs(b.Limb)
	if divisor.isZero() {
		return Wide{}, Wide{}, ErrState
	}
	quotient, rest := limbs(a.Limb).divide(divisor)
	neg := a.Neg != b.Neg
	// The quotient of the sizes is cut off towards 0: below 0 this is one too great, unless nothing is left.
	if neg && !rest.isZero() {
		quotient = quotient.next()
		rest = divisor.minus(rest)
	}
	return wideOfSize(neg, quotient), wideOfSize(b.Neg, rest), OK
}

// DivNear returns what is nearest to the quotient.
func DivNear(a, b Wide) (Wide, int64) {
	quotient, rest, code := DivWides(a, b)
	if code != OK {
		return Wide{}, code
	}
	left := limbs(rest.Limb)
	// Held against what is missing to b, and not doubled: twice the rest may be too large.
	if left.compare(limbs(b.Limb).minus(left)) < 0 {
		return quotient, OK
	}
	return AddWides(quotient, WideOf(1))
}

// RootWide returns the root, rounded down.
func RootWide(a Wide) (Wide, int64) {
	if !ValidWide(a) {
		return Wide{}, ErrInvalid
	}
	if a.Neg {
		return Wide{}, ErrRange
	}
	return wideOfSize(false, limbs(a.Limb).root()), OK
}

// PowerWide returns a power of a.
func PowerWide(a Wide, n int64) (Wide, int64) {
	if !ValidWide(a) {
		return Wide{}, ErrInvalid
	}
	if n < 0 || n > MaxShift {
		return Wide{}, ErrRange
	}
	power := WideOf(1)
	// Factor by factor, as squares could be too large where the power is not.
	for range n {
		product, code := MulWides(power, a)
		if code != OK {
			return Wide{}, code
		}
		power = product
	}
	return power, OK
}

// CommonWide returns the greatest common divisor.
func CommonWide(a, b Wide) (Wide, int64) {
	if !ValidWide(a) || !ValidWide(b) {
		return Wide{}, ErrInvalid
	}
	x, y := limbs(a.Limb), limbs(b.Limb)
	for !y.isZero() {
		_, rest := x.divide(y)
		x, y = y, rest
	}
	return wideOfSize(false, x), OK
}

// WideText returns the text of a.
func WideText(a Wide) string {
	if !ValidWide(a) {
		return ""
	}
	var text []byte
	size, digit := limbs(a.Limb).divideShort(10)
	text = append(text, byte('0'+digit))
	for !size.isZero() {
		size, digit = size.divideShort(10)
		text = append(text, byte('0'+digit))
	}
	if a.Neg {
		text = append(text, '-')
	}
	slices.Reverse(text)
	return string(text)
}

// ReadWide returns the wide integer with the given text.
func ReadWide(text string) (Wide, int64) {
	digits, neg := strings.CutPrefix(text, "-")
	if !isNumeral(digits) || neg && digits == "0" {
		return Wide{}, ErrSyntax
	}
	var size limbs
	for i := range len(digits) {
		tenfold, over := size.times(limbs{10})
		sum, carry := tenfold.plus(limbs{uint32(digits[i] - '0')})
		if over || carry {
			return Wide{}, ErrLimit
		}
		size = sum
	}
	return wideOfSize(neg, size), OK
}

// isNumeral reports whether a text is that of an integer of at least 0.
func isNumeral(text string) bool {
	for i := range len(text) {
		if text[i] < '0' || text[i] > '9' {
			return false
		}
	}
	return text == "0" || text != "" && text[0] != '0'
}

// wideOfSize returns the valid wide integer with a size: there is no negative 0.
func wideOfSize(neg bool, size limbs) Wide {
	return Wide{Neg: neg && !size.isZero(), Limb: size}
}

// wideWithin returns the same, or ErrLimit if the size is only what is left of a greater one.
func wideWithin(neg bool, size limbs, over bool) (Wide, int64) {
	if over {
		return Wide{}, ErrLimit
	}
	return wideOfSize(neg, size), OK
}

func (a Wide) isNegative() bool { return a.Neg }

func (a Wide) isZero() bool { return a == Wide{} }

func (a Wide) isPositive() bool { return !a.isNegative() && !a.isZero() }

// signOfValid returns the sign of a valid wide integer, which is the one whose test in the table holds.
func signOfValid(a Wide) int64 {
	tests := [...]func(Wide) bool{Wide.isNegative, Wide.isZero, Wide.isPositive}
	sign := int64(0)
	for i, holds := range tests {
		if holds(a) {
			sign = int64(i) - 1
		}
	}
	return sign
}

func (x limbs) isZero() bool { return x == limbs{} }

// used returns how many limbs there are without those of 0 on top.
func (x limbs) used() int {
	n := Limbs
	for n > 0 && x[n-1] == 0 {
		n--
	}
	return n
}

// bitCount returns the least n for which x is less than 2 to the power n.
func (x limbs) bitCount() int64 {
	n := x.used()
	if n == 0 {
		return 0
	}
	return int64((n-1)*limbBits + bits.Len32(x[n-1]))
}

// compare returns -1, 0 or 1 if x is less than, equal to or greater than y.
func (x limbs) compare(y limbs) int64 {
	if x == y {
		return 0
	}
	k := Limbs - 1
	for x[k] == y[k] {
		k--
	}
	if x[k] < y[k] {
		return -1
	}
	return 1
}

// plus returns the sum, and whether it is too large.
func (x limbs) plus(y limbs) (limbs, bool) {
	var carry uint64
	for k := range x {
		sum := uint64(x[k]) + uint64(y[k]) + carry
		x[k] = uint32(sum)
		carry = sum >> limbBits
	}
	return x, carry != 0
}

// next returns x and 1, for an x that is not the greatest.
func (x limbs) next() limbs {
	sum, _ := x.plus(limbs{1})
	return sum
}

// minus returns the difference, for a y of at most x.
func (x limbs) minus(y limbs) limbs {
	var borrow uint64
	for k := range x {
		difference := uint64(x[k]) - uint64(y[k]) - borrow
		x[k] = uint32(difference)
		// Below 0 it has wrapped around, which sets the top bit.
		borrow = difference >> 63
	}
	return x
}

// times returns the product, and whether it is too large.
func (x limbs) times(y limbs) (limbs, bool) {
	m, n := x.used(), y.used()
	// The product of the limbs on top, which are not 0, has its place past the end.
	if m+n > Limbs+1 {
		return limbs{}, true
	}
	var product limbs
	over := false
	for i := range m {
		var carry uint64
		for j := range n {
			sum := uint64(x[i])*uint64(y[j]) + uint64(product[i+j]) + carry
			product[i+j] = uint32(sum)
			carry = sum >> limbBits
		}
		if i+n < Limbs {
			product[i+n] = uint32(carry)
		} else if carry != 0 {
			over = true
		}
	}
	return product, over
}

// up returns x times 2 to the power by, without what is too large.
func (x limbs) up(by int64) limbs {
	skip, part := int(by/limbBits), by%limbBits
	var shifted limbs
	for k := skip; k < Limbs; k++ {
		shifted[k] = x[k-skip] << part
		if k > skip {
			shifted[k] |= x[k-skip-1] >> (limbBits - part)
		}
	}
	return shifted
}

// down returns x divided by 2 to the power by, rounded down.
func (x limbs) down(by int64) limbs {
	skip, part := int(by/limbBits), by%limbBits
	var shifted limbs
	for k := 0; k+skip < Limbs; k++ {
		shifted[k] = x[k+skip] >> part
		if k+skip+1 < Limbs {
			shifted[k] |= x[k+skip+1] << (limbBits - part)
		}
	}
	return shifted
}

// divide returns the quotient, rounded down, and the rest, for a y that is not 0.
func (x limbs) divide(y limbs) (limbs, limbs) {
	if x.compare(y) < 0 {
		return limbs{}, x
	}
	if y.used() > 1 {
		return x.divideLong(y)
	}
	quotient, rest := x.divideShort(y[0])
	return quotient, limbs{rest}
}

// divideShort is divide by a single limb.
func (x limbs) divideShort(y uint32) (limbs, uint32) {
	var rest uint64
	for k := Limbs - 1; k >= 0; k-- {
		whole := rest<<limbBits | uint64(x[k])
		x[k] = uint32(whole / uint64(y))
		rest = whole % uint64(y)
	}
	return x, uint32(rest)
}

// divideLong is divide by two limbs or more: as on paper, a limb of the quotient at a time, the highest one first.
func (x limbs) divideLong(y limbs) (limbs, limbs) {
	n := y.used()
	// The guesses are good only if the top bit of the divisor is set: both are shifted, which leaves the quotient as it is.
	by := int64(bits.LeadingZeros32(y[n-1]))
	divisor := y.up(by)
	row := x.upRow(by)
	var quotient limbs
	at := Limbs - n
column:
	digit := row.guess(divisor, at, n)
	less, below := row.takeAway(divisor, uint64(digit), at, n)
	if below {
		digit--
		less = less.giveBack(divisor, at, n)
	}
	row = less
	quotient[at] = digit
	if at > 0 {
		at--
		goto column
	}
	return quotient, limbs(row[:Limbs]).down(by)
}

// upRow returns x times 2 to the power by, which is less than the bits of a limb, with what goes over.
func (x limbs) upRow(by int64) limbRow {
	var row limbRow
	copy(row[:], x[:])
	for k := Limbs; k > 0; k-- {
		row[k] = row[k]<<by | row[k-1]>>(limbBits-by)
	}
	row[0] <<= by
	return row
}

// guess returns the limb of the quotient at a place, or one more than it, by the upper limbs alone.
func (row limbRow) guess(divisor limbs, at, n int) uint32 {
	first, second := uint64(divisor[n-1]), uint64(divisor[n-2])
	upper := uint64(row[at+n])<<limbBits | uint64(row[at+n-1])
	digit, rest := upper/first, upper%first
again:
	if digit > math.MaxUint32 || digit*second > rest<<limbBits|uint64(row[at+n-2]) {
		digit--
		rest += first
		// With a greater rest the second limb of the divisor can ask for no more.
		if rest <= math.MaxUint32 {
			goto again
		}
	}
	return uint32(digit)
}

// takeAway returns the row less the divisor times a digit, at a place, and whether this is below 0.
func (row limbRow) takeAway(divisor limbs, digit uint64, at, n int) (limbRow, bool) {
	var carry, borrow uint64
	for k := range n {
		product := digit*uint64(divisor[k]) + carry
		carry = product >> limbBits
		difference := uint64(row[at+k]) - uint64(uint32(product)) - borrow
		row[at+k] = uint32(difference)
		borrow = difference >> 63
	}
	difference := uint64(row[at+n]) - carry - borrow
	row[at+n] = uint32(difference)
	return row, difference>>63 != 0
}

// giveBack returns the row and the divisor, at a place, after one too many has been taken away.
func (row limbRow) giveBack(divisor limbs, at, n int) limbRow {
	var carry uint64
	for k := range n {
		sum := uint64(row[at+k]) + uint64(divisor[k]) + carry
		row[at+k] = uint32(sum)
		carry = sum >> limbBits
	}
	row[at+n] += uint32(carry)
	return row
}

// root returns the greatest integer whose square is at most x.
func (x limbs) root() limbs {
	if x.isZero() {
		return x
	}
	// Newton's steps from above the root go down until they reach it, and no further.
	high := limbs{1}.up((x.bitCount() + 1) / 2)
	for {
		quotient, _ := x.divide(high)
		sum, _ := high.plus(quotient)
		low := sum.down(1)
		if low.compare(high) >= 0 {
			return high
		}
		high = low
	}
}
