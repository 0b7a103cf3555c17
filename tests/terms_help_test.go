package tests

import (
	"math/big"
	"testing"

	"loop.example/g01242/impl"
)

// The tests of terms hold the program against a model, which follows the rules in math/big and keeps nothing that has
// been asked, and against the numbers themselves, found with floats of many bits.

func ratio(p, q int64) impl.Node { return impl.Node{Kind: impl.KdRatio, P: p, Q: q} }

func one(kind int8, a int16) impl.Node { return impl.Node{Kind: kind, A: a} }

func two(kind int8, a, b int16) impl.Node { return impl.Node{Kind: kind, A: a, B: b} }

var pi, euler = impl.Node{Kind: impl.KdPi}, impl.Node{Kind: impl.KdEuler}

// term returns a term of nodes.
func term(nodes ...impl.Node) []impl.Node { return nodes }

// repeated returns a term that begins with some nodes, and has then a node made of the last one, again and again.
func repeated(begin []impl.Node, times int, next func(last int16) impl.Node) []impl.Node {
	t := append([]impl.Node{}, begin...)
	for range times {
		t = append(t, next(int16(len(t)-1)))
	}
	return t
}

func isUnary(kind int8) bool {
	return kind == impl.KdNeg || kind == impl.KdAbs || kind == impl.KdRoot
}

func isLeaf(kind int8) bool {
	return kind == impl.KdRatio || kind == impl.KdPi || kind == impl.KdEuler
}

// modelStop is what the model panics with.
type modelStop int64

// modelTooLong stands for no code: the model, which keeps nothing, has been asked too often.
const modelTooLong = modelStop(-1)

// termModel follows the rules of chapter 2 as they are told.
type termModel struct {
	term  []impl.Node
	asked []impl.Ask // all that has been asked, in order, each time
}

// modelled returns the code with which a model ends.
func modelled(work func()) (code int64) {
	defer func() {
		if met := recover(); met != nil {
			code = int64(met.(modelStop))
		}
	}()
	work()
	return impl.OK
}

func fit(x *big.Int) *big.Int {
	if x.BitLen() > 192 {
		panic(modelStop(impl.ErrLimit))
	}
	return x
}

func pow2(n int64) *big.Int { return new(big.Int).Lsh(big.NewInt(1), uint(n)) }

func bigNear(x *big.Int, by int64) *big.Int {
	if by > impl.MaxShift {
		panic(modelStop(impl.ErrLimit))
	}
	return nearDiv(x, pow2(by))
}

func bigUp(x *big.Int, by int64) *big.Int {
	if by > impl.MaxShift {
		panic(modelStop(impl.ErrLimit))
	}
	return fit(new(big.Int).Mul(x, pow2(by)))
}

func bigSum(x, y *big.Int) *big.Int     { return fit(new(big.Int).Add(x, y)) }
func bigDiff(x, y *big.Int) *big.Int    { return fit(new(big.Int).Sub(x, y)) }
func bigProduct(x, y *big.Int) *big.Int { return fit(new(big.Int).Mul(x, y)) }

func (m *termModel) ask(node int16, n int64) *big.Int {
	if n > impl.MaxAsked {
		panic(modelStop(impl.ErrLimit))
	}
	if len(m.asked) > 30000 {
		panic(modelTooLong)
	}
	m.asked = append(m.asked, impl.Ask{Node: node, Places: int16(n)})
	x := m.term[node]
	switch x.Kind {
	case impl.KdRatio:
		return nearDiv(bigUp(big.NewInt(x.P), n), big.NewInt(x.Q))
	case impl.KdPi:
		return modelPi(n)
	case impl.KdEuler:
		return modelEuler(n)
	case impl.KdProduct:
		return m.product(x, n)
	case impl.KdQuotient:
		return m.quotient(x, n)
	case impl.KdNeg:
		return new(big.Int).Neg(m.ask(x.A, n))
	case impl.KdAbs:
		return new(big.Int).Abs(m.ask(x.A, n))
	case impl.KdRoot:
		if a := m.ask(x.A, 2*n+6); a.Sign() > 0 {
			return bigNear(new(big.Int).Sqrt(a), 3)
		}
		return new(big.Int)
	}
	return m.pair(x, n)
}

// pair is for the kinds that ask A and B for the same places.
func (m *termModel) pair(x impl.Node, n int64) *big.Int {
	if x.Kind == impl.KdSum || x.Kind == impl.KdDiff {
		n += 2
	}
	a := m.ask(x.A, n)
	b := m.ask(x.B, n)
	switch {
	case x.Kind == impl.KdSum:
		return bigNear(bigSum(a, b), 2)
	case x.Kind == impl.KdDiff:
		return bigNear(bigDiff(a, b), 2)
	case (x.Kind == impl.KdMin) == (a.Cmp(b) <= 0):
		return a
	}
	return b
}

func (m *termModel) growth(node int16) int64 {
	size := new(big.Int).Abs(m.ask(node, 0))
	size.Add(size, big.NewInt(1))
	least := int64(0)
	for pow2(least).Cmp(size) < 0 {
		least++
	}
	return least
}

func (m *termModel) away(node int16) int64 {
	for places := int64(2); places <= impl.MaxFind+2; places++ {
		if m.ask(node, places).CmpAbs(big.NewInt(5)) >= 0 {
			return places - 2
		}
	}
	panic(modelStop(impl.ErrBudget))
}

func (m *termModel) product(x impl.Node, n int64) *big.Int {
	a := m.growth(x.A)
	b := m.growth(x.B)
	left := m.ask(x.A, n+b+3)
	right := m.ask(x.B, n+a+3)
	return bigNear(bigProduct(left, right), n+a+b+6)
}

func (m *termModel) quotient(x impl.Node, n int64) *big.Int {
	k := m.away(x.B)
	a := m.growth(x.A)
	left := m.ask(x.A, n+k+3)
	right := m.ask(x.B, n+a+2*k+4)
	return nearDiv(bigUp(left, n+a+k+1), right)
}

func modelAngle(whole *big.Int, d int64) *big.Int {
	sum := new(big.Int)
	for i := int64(0); ; i++ {
		power := new(big.Int).Exp(big.NewInt(d), big.NewInt(2*i+1), nil)
		if fit(power).Cmp(whole) > 0 {
			return sum
		}
		part := floorDiv(floorDiv(whole, power), big.NewInt(2*i+1))
		if i%2 == 1 {
			part.Neg(part)
		}
		sum.Add(sum, part)
	}
}

func modelPi(n int64) *big.Int {
	whole := bigUp(big.NewInt(1), n+16)
	x := bigProduct(big.NewInt(16), modelAngle(whole, 5))
	return bigNear(bigDiff(x, bigProduct(big.NewInt(4), modelAngle(whole, 239))), 16)
}

func modelEuler(n int64) *big.Int {
	sum := new(big.Int)
	part := bigUp(big.NewInt(1), n+16)
	for i := int64(1); part.Sign() != 0; i++ {
		sum.Add(sum, part)
		part = floorDiv(part, big.NewInt(i))
	}
	return bigNear(sum, 16)
}

// digits follows TermDigits, and returns the last s as well.
func (m *termModel) digits(node int16, count int64) (*big.Int, []int8, *big.Int) {
	return modelDigits(count, func(n int64) *big.Int { return m.ask(node, n) })
}

// modelDigits does so for what is asked in place of a node.
func modelDigits(count int64, ask func(n int64) *big.Int) (*big.Int, []int8, *big.Int) {
	whole := bigNear(ask(2), 2)
	s := whole
	digits := []int8{}
	for i := int64(1); i <= count; i++ {
		e := bigDiff(ask(i+2), bigProduct(big.NewInt(8), s))
		digit := int64(0)
		if e.Cmp(big.NewInt(2)) > 0 {
			digit = 1
		}
		if e.Cmp(big.NewInt(-2)) < 0 {
			digit = -1
		}
		digits = append(digits, int8(digit))
		s = bigSum(bigProduct(big.NewInt(2), s), big.NewInt(digit))
	}
	return whole, digits, s
}

// firstTimes leaves out of a list what has come before.
func firstTimes(list []impl.Ask) []impl.Ask {
	seen := map[impl.Ask]bool{}
	var first []impl.Ask
	for _, pair := range list {
		if !seen[pair] {
			first = append(first, pair)
		}
		seen[pair] = true
	}
	return first
}

// Numbers are found with this many bits, of which more are right than any approximation has.
const floatBits = 600

const piText = "3.14159265358979323846264338327950288419716939937510582097494459230781640628620899862803482534211706798214808651"
const eulerText = "2.71828182845904523536028747135266249775724709369995957496696762772407663035354759457138217852516642742746"

func float(text string) *big.Float {
	x, _, err := big.ParseFloat(text, 10, floatBits, big.ToNearestEven)
	if err != nil {
		panic(err)
	}
	return x
}

func newFloat() *big.Float { return new(big.Float).SetPrec(floatBits) }

// numbersOf returns the numbers of all nodes, nil for those that are made with a quotient by 0.
func numbersOf(t []impl.Node) []*big.Float {
	list := make([]*big.Float, len(t))
	for i, x := range t {
		switch {
		case x.Kind == impl.KdRatio:
			list[i] = newFloat().Quo(newFloat().SetInt64(x.P), newFloat().SetInt64(x.Q))
		case x.Kind == impl.KdPi:
			list[i] = float(piText)
		case x.Kind == impl.KdEuler:
			list[i] = float(eulerText)
		case isUnary(x.Kind) && list[x.A] != nil:
			list[i] = numberOfOne(x.Kind, list[x.A])
		case !isUnary(x.Kind) && list[x.A] != nil && list[x.B] != nil:
			list[i] = numberOfTwo(x.Kind, list[x.A], list[x.B])
		}
	}
	return list
}

func numberOfOne(kind int8, a *big.Float) *big.Float {
	switch {
	case kind == impl.KdNeg:
		return newFloat().Neg(a)
	case kind == impl.KdAbs:
		return newFloat().Abs(a)
	case a.Sign() <= 0:
		return newFloat()
	}
	return newFloat().Sqrt(a)
}

func numberOfTwo(kind int8, a, b *big.Float) *big.Float {
	switch kind {
	case impl.KdSum:
		return newFloat().Add(a, b)
	case impl.KdDiff:
		return newFloat().Sub(a, b)
	case impl.KdProduct:
		return newFloat().Mul(a, b)
	case impl.KdQuotient:
		if b.Sign() == 0 {
			return nil
		}
		return newFloat().Quo(a, b)
	}
	if (kind == impl.KdMin) == (a.Cmp(b) <= 0) {
		return a
	}
	return b
}

// isUnitAway reports whether an integer is an approximation of a number.
func isUnitAway(a *big.Int, x *big.Float, places int64) bool {
	off := newFloat().Sub(newFloat().SetInt(a), newFloat().Mul(x, newFloat().SetInt(pow2(places))))
	most := newFloat().SetMantExp(newFloat().SetInt64(1), -40)
	return off.Abs(off).Cmp(most.Add(most, newFloat().SetInt64(1))) <= 0
}

// term draws a valid one of so many nodes, with numbers that are often alike, near 0 or hard to tell apart.
func (d *draw) term(nodes int) []impl.Node {
	pick := func(n int) int { return int(d.next() >> 33 % uint64(n)) }
	var t []impl.Node
	for i := range nodes {
		kind := int8(1 + pick(impl.KdEuler))
		a, b := 0, 0
		if i > 0 {
			a, b = pick(i), pick(i)
		}
		switch {
		case i == 0 || kind == impl.KdRatio:
			small := []int64{0, 1, -1, 2, -3, 5, 7, 100, 999999999, 1000000000, -1000000000}
			t = append(t, ratio(small[pick(len(small))], []int64{1, 2, 3, 4, 7, 1000, 1 << 29, 999999999, 1000000000}[pick(9)]))
		case isLeaf(kind):
			t = append(t, impl.Node{Kind: kind})
		case isUnary(kind):
			t = append(t, one(kind, int16(a)))
		default:
			t = append(t, two(kind, int16(a), int16(b)))
		}
	}
	return t
}

// someTerms returns terms of all kinds of nodes: listed ones, in which something is at a limit, and drawn ones.
func someTerms() [][]impl.Node {
	list := [][]impl.Node{
		term(ratio(1, 3), pi, ratio(2, 1), one(impl.KdRoot, 2), ratio(1, 2), two(impl.KdDiff, 0, 0), two(impl.KdQuotient, 1, 5)),
		term(pi, euler, two(impl.KdProduct, 0, 1), two(impl.KdQuotient, 0, 1), two(impl.KdDiff, 0, 1), one(impl.KdRoot, 4), one(impl.KdNeg, 5), one(impl.KdAbs, 6)),
		term(ratio(0, 1), one(impl.KdRoot, 0), ratio(-2, 1), one(impl.KdRoot, 2), two(impl.KdProduct, 1, 3), two(impl.KdSum, 2, 3), two(impl.KdQuotient, 4, 5)),
		term(ratio(1000000000, 1), two(impl.KdProduct, 0, 0), two(impl.KdProduct, 0, 1), two(impl.KdProduct, 1, 1), two(impl.KdQuotient, 0, 2), two(impl.KdQuotient, 2, 0)),
		term(ratio(1, 1000000000), two(impl.KdQuotient, 0, 0), two(impl.KdProduct, 0, 0), two(impl.KdQuotient, 0, 2), two(impl.KdQuotient, 2, 0)),
		term(ratio(5, 1), ratio(5, 1), two(impl.KdMin, 0, 1), two(impl.KdMax, 0, 1), one(impl.KdNeg, 0), two(impl.KdMin, 0, 4), two(impl.KdMax, 4, 0), two(impl.KdMax, 0, 4)),
		term(ratio(3, 1), one(impl.KdRoot, 0), one(impl.KdRoot, 1), one(impl.KdRoot, 2), one(impl.KdRoot, 3)),
		term(ratio(1, 3), ratio(333333333, 1000000000), two(impl.KdDiff, 0, 1), two(impl.KdQuotient, 0, 2), two(impl.KdDiff, 1, 0), two(impl.KdQuotient, 2, 4)),
		repeated(term(euler), 6, func(last int16) impl.Node { return two(impl.KdSum, last, last) }),
		repeated(term(pi), 5, func(last int16) impl.Node { return two(impl.KdProduct, last, last) }),
		repeated(term(ratio(-7, 3)), 7, func(last int16) impl.Node { return one(impl.KdNeg, last) }),
	}
	d := draw(20261118)
	for i := range 400 {
		list = append(list, d.term(1+i%9))
	}
	return list
}

// wantTermCode checks a code.
func wantTermCode(t *testing.T, what string, code, want int64) {
	t.Helper()
	if code != want {
		t.Errorf("%s: got the code %q, want %q", what, impl.CodeName(code), impl.CodeName(want))
	}
}
