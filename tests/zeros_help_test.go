package tests

import (
	"fmt"
	"math/big"
	"slices"
	"strings"
	"testing"

	"loop.example/g01242/impl"
)

// The tests of zeros hold the program against a model, which follows the rules in math/big, and against the numbers
// themselves: zeros are counted by how often the coefficients of moved polynomials change their sign (Descartes), common
// divisors are found with ratios, and limits are summed up with floats of 600 bits.

func poly(coefs ...int64) []int64 { return coefs }

// bigWide returns the wide integer with a value, which is not too large.
func bigWide(n *big.Int) impl.Wide {
	a, ok := wideOfBig(n)
	if !ok {
		panic("too large")
	}
	return a
}

func small(n int64) impl.Wide { return bigWide(big.NewInt(n)) }

func part(low, high, places int64) impl.Part {
	return impl.Part{Low: small(low), High: small(high), Places: places}
}

// partText returns the text of any part.
func partText(x impl.Part) string {
	return fmt.Sprint(bigOf(x.Low), " ", bigOf(x.High), "/", x.Places)
}

func partsText(list []impl.Part) string {
	var texts []string
	for _, x := range list {
		texts = append(texts, partText(x))
	}
	return strings.Join(texts, "; ")
}

// productOf returns the product of polynomials, which need not be valid.
func productOf(factors ...[]int64) []int64 {
	product := poly(1)
	for _, factor := range factors {
		next := make([]int64, len(product)+len(factor)-1)
		for i, x := range product {
			for j, y := range factor {
				next[i+j] += x * y
			}
		}
		product = next
	}
	return product
}

func isPoly(p []int64) bool {
	large := func(coef int64) bool { return coef > impl.MaxCoef || coef < -impl.MaxCoef }
	return len(p) > 1 && len(p) < 10 && !slices.ContainsFunc(p, large) && p[len(p)-1] != 0
}

// bigPoly is a polynomial with coefficients of any size.
type bigPoly []*big.Int

func (p bigPoly) text() string { return fmt.Sprint([]*big.Int(p)) }

func (p bigPoly) trimmed() bigPoly {
	for len(p) > 0 && p[len(p)-1].Sign() == 0 {
		p = p[:len(p)-1]
	}
	return p
}

func (p bigPoly) slope() bigPoly {
	var slope bigPoly
	for i := 1; i < len(p); i++ {
		slope = append(slope, bigProduct(p[i], big.NewInt(int64(i))))
	}
	return slope
}

func (p bigPoly) opposite() bigPoly {
	var list bigPoly
	for _, coef := range p {
		list = append(list, new(big.Int).Neg(coef))
	}
	return list
}

// divided returns the polynomial divided by the greatest common divisor of its coefficients.
func (p bigPoly) divided() bigPoly {
	common := new(big.Int)
	for _, coef := range p {
		common.GCD(nil, nil, common, new(big.Int).Abs(coef))
	}
	var list bigPoly
	for _, coef := range p {
		list = append(list, new(big.Int).Quo(coef, common))
	}
	return list
}

// at follows ValueAt.
func (p bigPoly) at(a *big.Int, places int64) *big.Int {
	value := p[len(p)-1]
	for i := len(p) - 2; i >= 0; i-- {
		value = bigProduct(value, a)
		value = bigSum(value, bigUp(p[i], places*int64(len(p)-1-i)))
	}
	return value
}

// exactly returns the value of a polynomial, as a sum of powers.
func (p bigPoly) exactly(x *big.Rat) *big.Rat {
	sum, power := new(big.Rat), rat(1, 1)
	for _, coef := range p {
		sum.Add(sum, times(power, new(big.Rat).SetInt(coef)))
		power = times(power, x)
	}
	return sum
}

// rest follows what is done with u and v in a chain.
func (u bigPoly) rest(v bigPoly) bigPoly {
	r := u.trimmed()
	l := v[len(v)-1]
	for len(r) >= len(v) {
		size, last := new(big.Int).Abs(l), r[len(r)-1]
		if l.Sign() < 0 {
			last = new(big.Int).Neg(last)
		}
		next, gap := bigPoly{}, len(r)-len(v)
		for i := range r {
			coef := bigProduct(size, r[i])
			if i >= gap {
				coef = bigDiff(coef, bigProduct(last, v[i-gap]))
			}
			next = append(next, coef)
		}
		r = next.trimmed()
	}
	return r
}

// chainFrom follows ChainOf, with the rests or, as in a chain of a polynomial, with their opposites.
func chainFrom(u, v bigPoly, opposites bool) []bigPoly {
	chain := []bigPoly{u, v}
	for {
		r := u.rest(v)
		if len(r) == 0 {
			return chain
		}
		r = r.divided()
		if opposites {
			r = r.opposite()
		}
		chain = append(chain, r)
		u, v = v, r
	}
}

func chainOf(p bigPoly) []bigPoly { return chainFrom(p, p.slope(), true) }

// simpleChain is chainOf for polynomials that are simple.
func simpleChain(p bigPoly) []bigPoly {
	chain := chainOf(p)
	if len(chain[len(chain)-1]) != 1 {
		panic(modelStop(impl.ErrState))
	}
	return chain
}

// commonOf follows CommonPoly.
func commonOf(p, q bigPoly) bigPoly {
	chain := chainFrom(p, q, false)
	common := chain[len(chain)-1].divided()
	if common[len(common)-1].Sign() < 0 {
		return common.opposite()
	}
	return common
}

// turnsIn follows TurnsAt.
func turnsIn(chain []bigPoly, a *big.Int, places int64) int64 {
	var signs []int
	for _, p := range chain {
		if sign := p.at(a, places).Sign(); sign != 0 {
			signs = append(signs, sign)
		}
	}
	return changes(signs)
}

func changes(signs []int) int64 {
	turns := int64(0)
	for i := 1; i < len(signs); i++ {
		if signs[i] != signs[i-1] {
			turns++
		}
	}
	return turns
}

// bigPart is a part with ends of any size.
type bigPart struct {
	low, high *big.Int
	places    int64
}

func bigPartOf(x impl.Part) bigPart {
	return bigPart{low: bigOf(x.Low), high: bigOf(x.High), places: x.Places}
}

func (x bigPart) part() impl.Part {
	return impl.Part{Low: bigWide(x.low), High: bigWide(x.high), Places: x.places}
}

// upTo returns the same part with its ends at other places.
func (x bigPart) upTo(places int64) bigPart {
	return bigPart{low: bigUp(x.low, places-x.places), high: bigUp(x.high, places-x.places), places: places}
}

// inCommon returns what is in both parts.
func (x bigPart) inCommon(y bigPart) bigPart {
	places := max(x.places, y.places)
	x, y = x.upTo(places), y.upTo(places)
	if x.low.Cmp(y.low) < 0 {
		x.low = y.low
	}
	if x.high.Cmp(y.high) > 0 {
		x.high = y.high
	}
	return x
}

func countIn(chain []bigPoly, x bigPart) int64 {
	return turnsIn(chain, x.low, x.places) - turnsIn(chain, x.high, x.places)
}

// boundOf follows BoundOf.
func boundOf(p []int64) int64 {
	last := bigs(p[len(p)-1])[0]
	for m := int64(0); ; m++ {
		most := new(big.Int).Mul(last, bigDiff(pow2(m), big.NewInt(1)))
		if !slices.ContainsFunc(p[:len(p)-1], func(coef int64) bool { return most.CmpAbs(big.NewInt(coef)) < 0 }) {
			return m
		}
	}
}

// modelParts follows PartsOf, with a list of the parts that are still to be gone through.
func modelParts(p []int64) []impl.Part {
	chain := simpleChain(bigs(p...))
	high := pow2(boundOf(p))
	open := []bigPart{{low: new(big.Int).Neg(high), high: high}}
	var parts []impl.Part
	for len(open) > 0 {
		x := open[len(open)-1]
		open = open[:len(open)-1]
		if x.places > impl.MaxDepth {
			panic(modelStop(impl.ErrBudget))
		}
		zeros := countIn(chain, x)
		if zeros == 1 {
			parts = append(parts, x.part())
		}
		if zeros > 1 {
			middle := bigSum(x.low, x.high)
			open = append(open, bigPart{low: middle, high: bigUp(x.high, 1), places: x.places + 1}, bigPart{low: bigUp(x.low, 1), high: middle, places: x.places + 1})
		}
	}
	return parts
}

// oneZero returns the chain of a polynomial with just one zero in a part.
func oneZero(p []int64, x impl.Part) []bigPoly {
	chain := simpleChain(bigs(p...))
	if countIn(chain, bigPartOf(x)) != 1 {
		panic(modelStop(impl.ErrNotFound))
	}
	return chain
}

// modelRefine follows RefinePart.
func modelRefine(chain []bigPoly, part impl.Part, places int64) bigPart {
	x := bigPartOf(part).upTo(places)
	for bigDiff(x.high, x.low).Cmp(big.NewInt(1)) > 0 {
		m := floorDiv(bigSum(x.low, x.high), big.NewInt(2))
		if countIn(chain, bigPart{low: x.low, high: m, places: places}) == 1 {
			x.high = m
		} else {
			x.low = m
		}
	}
	return x
}

// modelZero follows ZeroApprox.
func modelZero(chain []bigPoly, x impl.Part, places int64) *big.Int {
	if places >= x.Places {
		return modelRefine(chain, x, places).high
	}
	return bigNear(modelRefine(chain, x, x.Places).high, x.Places-places)
}

// modelCommonParts follows CommonParts.
func modelCommonParts(p, q []int64, x, y impl.Part) bool {
	oneZero(p, x)
	oneZero(q, y)
	common := commonOf(bigs(p...), bigs(q...))
	if len(common) == 1 {
		return false
	}
	both := bigPartOf(x).inCommon(bigPartOf(y))
	return both.low.Cmp(both.high) < 0 && countIn(simpleChain(common), both) > 0
}

// modelSeries follows SeriesApprox, and returns how many terms there are as well.
func modelSeries(s impl.Series, places int64) (*big.Int, int64) {
	u, sum, terms := pow2(places+10), new(big.Int), int64(0)
	for u.Sign() > 0 {
		part := floorDiv(u, big.NewInt(s.First+s.Step*terms))
		if s.Turns && terms%2 == 1 {
			part.Neg(part)
		}
		sum.Add(sum, part)
		terms++
		u = floorDiv(new(big.Int).Mul(u, big.NewInt(s.Num)), big.NewInt(s.Den))
	}
	return nearDiv(sum, pow2(10)), terms
}

// limitOf returns the limit of a series.
func limitOf(s impl.Series) *big.Float {
	sum, power := newFloat(), newFloat().SetInt64(1)
	factor := newFloat().Quo(newFloat().SetInt64(s.Num), newFloat().SetInt64(s.Den))
	if s.Turns {
		factor.Neg(factor)
	}
	for i := range int64(300) {
		sum.Add(sum, newFloat().Quo(power, newFloat().SetInt64(s.First+s.Step*i)))
		power = newFloat().Mul(power, factor)
	}
	return sum
}

// moved returns the polynomial whose zeros from 0 to 1 are those of p in a part, as far as signs go.
func (p bigPoly) moved(x bigPart) bigPoly {
	width := new(big.Int).Sub(x.high, x.low)
	list := bigPoly{p[len(p)-1]}
	for i := len(p) - 2; i >= 0; i-- {
		next := make(bigPoly, len(list)+1)
		for k := range next {
			next[k] = new(big.Int)
			if k < len(list) {
				next[k].Mul(list[k], x.low)
			}
			if k > 0 {
				next[k].Add(next[k], new(big.Int).Mul(list[k-1], width))
			}
		}
		next[0].Add(next[0], new(big.Int).Mul(p[i], pow2(x.places*int64(len(p)-1-i))))
		list = next
	}
	return list
}

// zerosInside returns how many zeros of a simple polynomial lie between the ends of a part: those of the moved polynomial
// from 0 to 1 are those greater than 0 of what has its coefficients in the other order, at x + 1; if the signs of these
// change at most once, there are as many zeros as that, and otherwise both halves are looked at.
func (p bigPoly) zerosInside(x bigPart) int64 {
	list := p.moved(x)
	slices.Reverse(list)
	for i := range list {
		for k := len(list) - 2; k >= i; k-- {
			list[k] = new(big.Int).Add(list[k], list[k+1])
		}
	}
	var signs []int
	for _, coef := range list {
		if coef.Sign() != 0 {
			signs = append(signs, coef.Sign())
		}
	}
	if turns := changes(signs); turns < 2 {
		return turns
	}
	middle := new(big.Int).Add(x.low, x.high)
	lower := bigPart{low: new(big.Int).Lsh(x.low, 1), high: middle, places: x.places + 1}
	upper := bigPart{low: middle, high: new(big.Int).Lsh(x.high, 1), places: x.places + 1}
	return p.zerosInside(lower) + p.zeroAt(middle, x.places+1) + p.zerosInside(upper)
}

// zeroAt returns 1 if there is a zero at a place, and 0 otherwise.
func (p bigPoly) zeroAt(a *big.Int, places int64) int64 {
	if p.exactly(bigRat(a, pow2(places))).Sign() == 0 {
		return 1
	}
	return 0
}

// zerosIn returns how many zeros of a simple polynomial lie in a part.
func (p bigPoly) zerosIn(x bigPart) int64 {
	if x.low.Cmp(x.high) >= 0 {
		return 0
	}
	return p.zerosInside(x) + p.zeroAt(x.high, x.places)
}

// everywhere is a part with all zeros of a valid polynomial.
func everywhere() bigPart { return bigPart{low: new(big.Int).Neg(pow2(40)), high: pow2(40)} }

// euclid returns the greatest common divisor, found with ratios, divided by that of its coefficients, with a last one
// greater than 0.
func euclid(p, q bigPoly) bigPoly {
	u, v := ratsOf(p), ratsOf(q)
	for len(v) > 0 {
		r := slices.Clone(u)
		for len(r) >= len(v) {
			factor := new(big.Rat).Quo(r[len(r)-1], v[len(v)-1])
			for i := range v {
				at := len(r) - len(v) + i
				r[at] = minus(r[at], times(factor, v[i]))
			}
			for len(r) > 0 && r[len(r)-1].Sign() == 0 {
				r = r[:len(r)-1]
			}
		}
		u, v = v, r
	}
	under := big.NewInt(int64(u[len(u)-1].Sign()))
	for _, coef := range u {
		under = new(big.Int).Mul(under, coef.Denom())
	}
	var common bigPoly
	for _, coef := range u {
		common = append(common, times(coef, new(big.Rat).SetInt(under)).Num())
	}
	return common.divided()
}

func ratsOf(p bigPoly) []*big.Rat {
	var list []*big.Rat
	for _, coef := range p {
		list = append(list, new(big.Rat).SetInt(coef))
	}
	return list
}

// isSimple reports whether a polynomial has no multiple zeros.
func isSimple(p []int64) bool {
	slope := make([]int64, len(p)-1)
	for i := range slope {
		slope[i] = p[i+1] * int64(i+1)
	}
	return len(slope) == 1 || len(euclid(bigs(p...), bigs(slope...))) == 1
}

// isUnitOff reports whether an integer is an approximation of the zero of a polynomial in a part.
func isUnitOff(p []int64, x impl.Part, a *big.Int, places int64) bool {
	one := big.NewInt(1)
	low := new(big.Int).Sub(a, one)
	both := bigPart{low: low, high: new(big.Int).Add(a, one), places: places}.inCommon(bigPartOf(x))
	list := bigPoly(bigs(p...))
	// A zero at the lower end is a unit away as well.
	atEnd := list.zeroAt(low, places) > 0 && list.zerosIn(bigPart{low: bigDiff(low, one), high: low, places: places}.inCommon(bigPartOf(x))) > 0
	return list.zerosIn(both) == 1 || atEnd
}

// sameWides reports whether wide coefficients are those of a polynomial.
func sameWides(got []impl.Wide, want bigPoly) bool {
	return slices.EqualFunc(got, want, func(a impl.Wide, n *big.Int) bool { return bigOf(a).Cmp(n) == 0 })
}

// poly draws a valid one, with coefficients of any size, many of which are 0.
func (d *draw) poly() []int64 {
	p := make([]int64, 2+d.below(impl.MaxDegree))
	most := []int64{1, 3, 10, 1000, impl.MaxCoef}[d.below(5)]
	for i := range p {
		if d.below(4) > 0 {
			p[i] = d.below(2*most+1) - most
		}
	}
	if last := len(p) - 1; p[last] == 0 {
		p[last] = 1 - 2*d.below(2)
	}
	return p
}

// factored draws a valid polynomial that is a product of short ones, some of which may be the same.
func (d *draw) factored() []int64 {
	p := poly(1)
	for range 1 + d.below(6) {
		factor := poly(d.below(17)-8, 1+d.below(4))
		if d.below(4) == 0 {
			factor = poly(d.below(13)-6, d.below(5)-2, 1+d.below(3))
		}
		if next := productOf(p, factor); isPoly(next) {
			p = next
		}
	}
	return p
}

// Polynomials of which two zeros lie so close together that the parts have 48 places, and such that they had to have more.
var (
	deepPoly    = []int64{14836, 220548, 819652, 1}
	deeperPoly  = []int64{15032, 231044, 887795, 1}
	wilkinson   = []int64{40320, -109584, 118124, -67284, 22449, -4536, 546, -36, 1}
	chebyshev   = []int64{1, 0, -32, 0, 160, 0, -256, 0, 128}
	closeDouble = []int64{-1, 2000, -1000000, 1}
)

// somePolys returns valid polynomials: of all degrees, simple or not, with and without zeros, close ones among them.
func somePolys() [][]int64 {
	const most = impl.MaxCoef
	list := [][]int64{
		poly(0, 1), poly(0, -1), poly(5, 1), poly(-5, 1), poly(1, 2), poly(-1, 2), poly(-1, 3), poly(most, 1), poly(-most, 1), poly(most, most), poly(1, most), poly(-1, -most), poly(0, most), poly(7, -8),
		poly(-2, 0, 1), poly(2, 0, -1), poly(1, 0, 1), poly(-1, 0, -1), poly(1, 1, 1), poly(-1, -1, 1), poly(0, 0, 1), poly(1, 2, 1), poly(1, -2, 1), poly(-4, 0, 1), poly(0, -1, 1), poly(most, most, most), poly(-most, most, most), poly(-most, most, 1), poly(1, most, 1), poly(-most, 0, most),
		poly(497025, -996871, 498436), poly(-1, 0, most), poly(1, -most, most),
		poly(0, -1, 0, 1), poly(0, 1, 0, -1), poly(-2, 0, 0, 1), poly(1, -3, 0, 1), poly(-1, 1, -1, 1), poly(0, 0, 0, 1), poly(2, -3, 0, 1), poly(-6, 11, -6, 1), poly(most, 0, 0, 1), poly(-most, most, -most, most),
		closeDouble, deepPoly, deeperPoly, poly(26987, -283481, 744446, 1), poly(44337, -383855, 830822, 1), poly(-14836, 220548, -819652, 1), poly(-15032, 231044, -887795, 1), poly(-755, 38321, -486258, 1),
		poly(0, 15032, 231044, 887795, 1), poly(1, 0, -10, 0, 1), poly(4, 0, -5, 0, 1), poly(4, 0, -4, 0, 1), poly(-1, 2000, -most, 0, 1), poly(1, -2000, most, 0, 1), poly(1, 1, 1, 1, 1), poly(-most, 999999, -999998, 999997, 1),
		poly(1, -1, 0, 0, 0, 1), poly(0, 4, 0, -5, 0, 1), poly(-1, 600, -90000, 0, 0, 1), poly(-1, 2000, -most, 0, 0, 1), poly(0, -1, 0, 0, 0, 0, 1), poly(-2, 0, 0, 0, 0, 0, 0, 1),
		wilkinson, chebyshev, poly(0, 0, 0, 0, 0, 0, 0, 0, 1), poly(0, 0, 0, 0, 0, 0, 0, 0, -most), poly(-1, 0, 0, 0, 0, 0, 0, 0, 1), poly(1, 0, 0, 0, 0, 0, 0, 0, 1), poly(-most, 0, 0, 0, 0, 0, 0, 0, 1), poly(-most, 0, 0, 0, 0, 0, 0, 0, most), poly(0, -1, 0, 0, 0, 0, 0, 0, 1),
		poly(most, -most, most, -most, most, -most, most, -most, most), poly(-2, 1, 1, 1, 0, 0, 1, 0, 1), poly(1, 0, 0, 0, -2, 0, 0, 0, 1),
	}
	d := draw(5)
	for range 120 {
		list = append(list, d.poly(), d.factored(), d.factored())
	}
	return list
}

// simpleOnes returns those of some polynomials for which there are parts, with the parts.
func simpleOnes(t *testing.T) ([][]int64, [][]impl.Part) {
	t.Helper()
	var polys [][]int64
	var parts [][]impl.Part
	for _, p := range somePolys() {
		if list, code := impl.PartsOf(p); code == impl.OK && len(list) > 0 {
			polys = append(polys, p)
			parts = append(parts, list)
		}
	}
	if len(polys) < 150 {
		t.Fatalf("only %d polynomials have parts", len(polys))
	}
	return polys, parts
}

// someSeries returns valid series, with all numbers at both ends of their ranges.
func someSeries() []impl.Series {
	var list []impl.Series
	for _, quotient := range [][2]int64{{1, 2}, {1, 3}, {2, 4}, {1, 1000}, {500, 1000}, {499, 999}, {1, 999}, {2, 5}, {7, 100}, {1, 4}, {1, 9}, {3, 7}} {
		for _, first := range []int64{1, 2, 3, 10, 1000} {
			for _, step := range []int64{0, 1, 2, 7, 1000} {
				for _, turns := range []bool{false, true} {
					list = append(list, impl.Series{Num: quotient[0], Den: quotient[1], First: first, Step: step, Turns: turns})
				}
			}
		}
	}
	return list
}
