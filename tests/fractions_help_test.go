package tests

import (
	"fmt"
	"math/big"
	"slices"
	"strconv"
	"strings"
	"testing"

	"loop.example/g01242/impl"
)

// The tests of fractions hold the program against a model, which calculates values from their end on, tries all ratios
// and all solutions, finds terms of roots between bounds of thousands of bits, and follows the machines in math/big.

// cf returns the terms with a text, which the tests read themselves; they need not be valid.
func cf(text string) []int64 {
	var list []int64
	for _, field := range strings.FieldsFunc(text, func(c rune) bool { return c == ';' || c == ',' }) {
		term, err := strconv.ParseInt(field, 10, 64)
		if err != nil {
			panic(err)
		}
		list = append(list, term)
	}
	return list
}

// cfText returns the text of any list of terms.
func cfText(list []int64) string {
	var fields []string
	for _, term := range list {
		fields = append(fields, fmt.Sprint(term))
	}
	return strings.Replace(strings.Join(fields, ","), ",", ";", 1)
}

// ones returns terms of which all are 1, but the last one, which is 2.
func ones(count int) []int64 {
	list := slices.Repeat([]int64{1}, count)
	list[count-1]++
	return list
}

func bigRat(p, q *big.Int) *big.Rat { return new(big.Rat).SetFrac(p, q) }

func over1(x *big.Rat) *big.Rat { return new(big.Rat).Inv(x) }

// floorRat returns the greatest integer that is at most x.
func floorRat(x *big.Rat) *big.Int { return floorDiv(x.Num(), x.Denom()) }

// cfOf returns all terms of a number.
func cfOf(x *big.Rat) []*big.Int {
	var list []*big.Int
	for {
		term := floorRat(x)
		list = append(list, term)
		left := minus(x, new(big.Rat).SetInt(term))
		if left.Sign() == 0 {
			return list
		}
		x = over1(left)
	}
}

// termsOf follows TermsOf.
func termsOf(x *big.Rat) ([]int64, int64) {
	var list []int64
	for _, term := range cfOf(x) {
		if term.CmpAbs(big.NewInt(impl.MaxTerm)) > 0 || len(list) == impl.MaxTerms {
			return nil, impl.ErrLimit
		}
		list = append(list, term.Int64())
	}
	return list, impl.OK
}

// cfValue returns the value of terms, calculated from the last one on.
func cfValue(list []int64) *big.Rat {
	value := rat(list[len(list)-1], 1)
	for i := len(list) - 2; i >= 0; i-- {
		value = plus(rat(list[i], 1), over1(value))
	}
	return value
}

// areTerms reports whether terms are valid.
func areTerms(list []int64) bool {
	for i, term := range list {
		if term < -impl.MaxTerm || term > impl.MaxTerm || i > 0 && term < 1 {
			return false
		}
	}
	return len(list) == 1 || len(list) > 1 && len(list) <= impl.MaxTerms && list[len(list)-1] > 1
}

// beside returns the greatest ratio less than x and the least one greater, of all with Q at most most, found by trying
// each Q.
func beside(x *big.Rat, most int64) (low, high *big.Rat) {
	for q := int64(1); q <= most; q++ {
		p := floorRat(times(x, rat(q, 1)))
		for _, plus := range []int64{-1, 0, 1} {
			near := bigRat(new(big.Int).Add(p, big.NewInt(plus)), big.NewInt(q))
			if near.Cmp(x) < 0 && (low == nil || near.Cmp(low) > 0) {
				low = near
			}
			if near.Cmp(x) > 0 && (high == nil || near.Cmp(high) < 0) {
				high = near
			}
		}
	}
	return low, high
}

// nearest returns the ratio that BestFraction has to find, by trying all of them.
func nearest(x *big.Rat, most int64) *big.Rat {
	var best, away *big.Rat
	for q := int64(1); q <= most; q++ {
		p := floorRat(times(x, rat(q, 1)))
		// In this order the first one of those that are as near has the least Q, and the least P of these.
		for _, plus := range []int64{-1, 0, 1, 2} {
			near := bigRat(new(big.Int).Add(p, big.NewInt(plus)), big.NewInt(q))
			off := minus(near, x)
			if off.Abs(off); best == nil || off.Cmp(away) < 0 {
				best, away = near, off
			}
		}
	}
	return best
}

// pathOf returns the path to the ratio with some terms: so many bytes to one side, and then to the other one, as the
// terms tell, but one less of the last one.
func pathOf(list []*big.Int) (string, int64) {
	var path strings.Builder
	for i, term := range list {
		bytes := term.Int64()
		if i == len(list)-1 {
			bytes--
		}
		if int64(path.Len())+bytes > impl.MaxPath {
			return "", impl.ErrLimit
		}
		path.WriteString(strings.Repeat(string("RL"[i%2]), int(bytes)))
	}
	return path.String(), impl.OK
}

// valueOfPath returns the value of a path, found from its end on: a byte R is to add 1, and L to do so to 1 / x.
func valueOfPath(path string) *big.Rat {
	value := rat(1, 1)
	for i := len(path) - 1; i >= 0; i-- {
		if path[i] == 'L' {
			value = over1(plus(over1(value), rat(1, 1)))
		} else {
			value = plus(value, rat(1, 1))
		}
	}
	return value
}

// rootTerms returns the first terms of the root of n, which is no square: those that a number just below and one just
// above it have in common.
func rootTerms(n int64, count int) []int64 {
	bits := uint(8*count + 200)
	low := new(big.Int).Lsh(big.NewInt(n), 2*bits)
	low.Sqrt(low)
	unit := new(big.Int).Lsh(big.NewInt(1), bits)
	a, b, c, d := low, unit, new(big.Int).Add(low, big.NewInt(1)), unit
	var list []int64
	for len(list) < count {
		term, rest := new(big.Int).DivMod(a, b, new(big.Int))
		other, otherRest := new(big.Int).DivMod(c, d, new(big.Int))
		if term.Cmp(other) != 0 {
			panic("the bounds are too far apart")
		}
		list = append(list, term.Int64())
		a, b, c, d = b, rest, d, otherRest
	}
	return list
}

// bigConvergents returns the parts of the convergents of terms, without a limit.
func bigConvergents(list []int64) [][2]*big.Int {
	var all [][2]*big.Int
	before, last := [2]*big.Int{new(big.Int), big.NewInt(1)}, [2]*big.Int{big.NewInt(1), new(big.Int)}
	for _, term := range list {
		next := [2]*big.Int{mixed(term, last[0], 1, before[0]), mixed(term, last[1], 1, before[1])}
		all = append(all, next)
		before, last = last, next
	}
	return all
}

// norm returns x * x - n * (y * y).
func norm(n int64, x, y *big.Int) *big.Int {
	return new(big.Int).Sub(new(big.Int).Mul(x, x), new(big.Int).Mul(big.NewInt(n), new(big.Int).Mul(y, y)))
}

// isOne reports whether a number is 1.
func isOne(n *big.Int) bool { return n.IsInt64() && n.Int64() == 1 }

// isSquare reports whether a number is a square.
func isSquare(n int64) bool {
	root := new(big.Int).Sqrt(big.NewInt(n)).Int64()
	return root*root == n
}

// bigs returns numbers of any size.
func bigs(numbers ...int64) []*big.Int {
	var list []*big.Int
	for _, n := range numbers {
		list = append(list, big.NewInt(n))
	}
	return list
}

// areCells reports whether no number is greater than MaxCell in size.
func areCells(lists ...[]*big.Int) bool {
	for _, list := range lists {
		for _, n := range list {
			if n.CmpAbs(big.NewInt(impl.MaxCell)) > 0 {
				return false
			}
		}
	}
	return true
}

// agreed returns the greatest integer that is at most each quotient, if all divisors have the same sign, and it is the
// same one for all.
func agreed(over, under []*big.Int) (*big.Int, bool) {
	var q *big.Int
	for i := range over {
		if under[i].Sign() == 0 || under[i].Sign() != under[0].Sign() {
			return nil, false
		}
		if next := floorDiv(over[i], under[i]); q == nil {
			q = next
		} else if q.Cmp(next) != 0 {
			return nil, false
		}
	}
	return q, true
}

// lessTimes returns a list less q times another one.
func lessTimes(list []*big.Int, q *big.Int, other []*big.Int) []*big.Int {
	var left []*big.Int
	for i := range list {
		left = append(left, new(big.Int).Sub(list[i], new(big.Int).Mul(q, other[i])))
	}
	return left
}

// judged returns moves, or the error of them.
func judged(moves []impl.Move, fits bool) ([]impl.Move, int64) {
	given := givenOf(moves)
	switch {
	case !fits:
		return nil, impl.ErrLimit
	case len(given) == 0:
		return nil, impl.ErrState
	case !areTerms(given):
		return nil, impl.ErrLimit
	}
	return moves, impl.OK
}

// givenOf returns the terms that moves give.
func givenOf(moves []impl.Move) []int64 {
	var list []int64
	for _, move := range moves {
		if move.Kind == impl.MvGive {
			list = append(list, move.Term)
		}
	}
	return list
}

// pairMoves follows PairMoves, with just the four numbers of the document.
func pairMoves(m impl.Pair, list []int64) ([]impl.Move, int64) {
	top, low := bigs(m.A, m.B), bigs(m.C, m.D)
	taken, fits := 0, true
	var moves []impl.Move
	for fits {
		ends := func(x []*big.Int) []*big.Int { return []*big.Int{x[0], mixed(1, x[0], 1, x[1])} }
		q, ok := agreed(ends(top), ends(low))
		switch {
		case ok && taken > 0:
			if !q.IsInt64() {
				return nil, impl.ErrLimit
			}
			top, low = low, lessTimes(top, q, low)
			moves = append(moves, impl.Move{Kind: impl.MvGive, Term: q.Int64()})
		case taken < len(list):
			a := list[taken]
			top = []*big.Int{mixed(a, top[0], 1, top[1]), top[0]}
			low = []*big.Int{mixed(a, low[0], 1, low[1]), low[0]}
			moves = append(moves, impl.Move{Kind: impl.MvLeft, Term: a})
			taken++
		case taken == len(list):
			top, low = []*big.Int{top[0], top[0]}, []*big.Int{low[0], low[0]}
			moves = append(moves, impl.Move{Kind: impl.MvLeft})
			taken++
		default:
			return judged(moves, true)
		}
		fits = areCells(top, low)
	}
	return judged(moves, false)
}

// eightMoves follows EightMoves.
func eightMoves(e impl.Eight, x, y []int64) ([]impl.Move, int64) {
	top, low := bigs(e.Top[:]...), bigs(e.Low[:]...)
	takenX, takenY, turnX, fits := 0, 0, true, true
	var moves []impl.Move
	for fits {
		corners := func(t []*big.Int) []*big.Int {
			one, two := mixed(1, t[0], 1, t[1]), mixed(1, t[0], 1, t[2])
			return []*big.Int{t[0], one, two, mixed(1, one, 1, mixed(1, t[2], 1, t[3]))}
		}
		q, ok := agreed(corners(top), corners(low))
		endX, endY := takenX > len(x), takenY > len(y)
		switch {
		case ok && takenX > 0 && takenY > 0:
			if !q.IsInt64() {
				return nil, impl.ErrLimit
			}
			top, low = low, lessTimes(top, q, low)
			moves = append(moves, impl.Move{Kind: impl.MvGive, Term: q.Int64()})
		case endX && endY:
			return judged(moves, true)
		case endY || turnX && !endX:
			top, low = takeX(top, x, takenX), takeX(low, x, takenX)
			moves = append(moves, impl.Move{Kind: impl.MvLeft, Term: termOr0(x, takenX)})
			takenX++
			turnX = false
		default:
			top, low = takeY(top, y, takenY), takeY(low, y, takenY)
			moves = append(moves, impl.Move{Kind: impl.MvRight, Term: termOr0(y, takenY)})
			takenY++
			turnX = true
		}
		fits = areCells(top, low)
	}
	return judged(moves, false)
}

func termOr0(list []int64, i int) int64 {
	if i < len(list) {
		return list[i]
	}
	return 0
}

func takeX(t []*big.Int, list []int64, i int) []*big.Int {
	if i == len(list) {
		return []*big.Int{t[0], t[1], t[0], t[1]}
	}
	return []*big.Int{mixed(list[i], t[0], 1, t[2]), mixed(list[i], t[1], 1, t[3]), t[0], t[1]}
}

func takeY(t []*big.Int, list []int64, i int) []*big.Int {
	if i == len(list) {
		return []*big.Int{t[0], t[0], t[2], t[2]}
	}
	return []*big.Int{mixed(list[i], t[0], 1, t[1]), t[0], mixed(list[i], t[2], 1, t[3]), t[2]}
}

// quotientAt returns what a machine with eight numbers makes of two values, and false if it divides by 0.
func quotientAt(e impl.Eight, x, y *big.Rat) (*big.Rat, bool) {
	at := func(t [4]int64) *big.Rat {
		both := times(rat(t[0], 1), times(x, y))
		return plus(plus(both, times(rat(t[1], 1), x)), plus(times(rat(t[2], 1), y), rat(t[3], 1)))
	}
	under := at(e.Low)
	if under.Sign() == 0 {
		return nil, false
	}
	return times(at(e.Top), over1(under)), true
}

// eightOf returns the machine with eight numbers that makes of x what one with four numbers makes of it, whatever y is.
func eightOf(m impl.Pair) impl.Eight {
	return impl.Eight{Top: [4]int64{0, m.A, 0, m.B}, Low: [4]int64{0, m.C, 0, m.D}}
}

// movesText returns moves with a letter for each kind, and the terms.
func movesText(moves []impl.Move) string {
	var list []string
	for _, move := range moves {
		letter := map[int8]string{impl.MvGive: "g", impl.MvLeft: "x", impl.MvRight: "y"}[move.Kind]
		list = append(list, letter+fmt.Sprint(move.Term))
	}
	return strings.Join(list, " ")
}

// someRatios returns valid ratios: all small ones, those with parts as large as they may be, and drawn ones.
func someRatios() []impl.Ratio {
	var list []impl.Ratio
	add := func(p, q int64) {
		if r, code := ratioOf(rat(p, q)); code == impl.OK {
			list = append(list, r)
		}
	}
	for q := int64(1); q <= 12; q++ {
		for p := int64(-30); p <= 30; p++ {
			if r := rat(p, q); r.Denom().Int64() == q {
				add(p, q)
			}
		}
	}
	const most, fib, fib1 = impl.MaxPart, 1836311903, 1134903170
	for _, r := range [][2]int64{{most, 1}, {most - 1, 1}, {most, most - 1}, {most - 1, most}, {1, most}, {1, most - 1}, {most, 3}, {most - 1, 2}, {most - 5, 3},
		{fib, fib1}, {fib1, fib}, {fib, fib - fib1}, {fib - 1, fib}, {1000000000, 1}, {1000000001, 1}, {1, 1000000000}, {1, 1000000001}, {1000000001, 1000000000}, {999999999, 1000000000},
		{199999, 200000}, {99999, 100000}, {100000, 99999}, {1, 100000}, {1, 100001}, {1, 200000}, {314159265, 100000000}, {103993, 33102}, {2147483647, 46341}} {
		add(r[0], r[1])
		add(-r[0], r[1])
	}
	d := draw(404)
	for range 150 {
		limit := int64(1) << (1 + d.below(31))
		add(d.below(2*limit+1)-limit, 1+d.below(int64(1)<<(1+d.below(31))))
	}
	return list
}

// list draws valid terms: at most so many, each but the first one of at most a size.
func (d *draw) terms(most int, size int64) []int64 {
	list := []int64{d.below(2*size+1) - size}
	for range d.below(int64(most)) {
		list = append(list, 1+d.below(size))
	}
	if last := len(list) - 1; last > 0 && list[last] == 1 {
		list[last]++
	}
	return list
}

// someCfs returns valid terms: short ones, those at the limits, and drawn ones.
func someCfs() [][]int64 {
	var list [][]int64
	for first := int64(-3); first <= 3; first++ {
		list = append(list, []int64{first})
		for second := int64(1); second <= 4; second++ {
			for third := int64(1); third <= 3; third++ {
				list = append(list, []int64{first, second + 1}, []int64{first, second, third + 1}, []int64{first, second, third, 2})
			}
		}
	}
	const term = impl.MaxTerm
	for _, text := range []string{"1000000000", "-1000000000", "0;1000000000", "1000000000;1000000000", "-1000000000;1000000000,1000000000", "1000000000;2", "-1000000000;1,2", "2;2147483647"} {
		if x := cf(text); areTerms(x) {
			list = append(list, x)
		}
	}
	list = append(list, ones(impl.MaxTerms), ones(impl.MaxTerms-1), append([]int64{-7}, ones(impl.MaxTerms-1)...), append(ones(impl.MaxTerms - 1)[:38], 1, term), slices.Repeat([]int64{2}, impl.MaxTerms), slices.Repeat([]int64{term}, impl.MaxTerms))
	d := draw(40)
	for range 200 {
		list = append(list, d.terms(1+int(d.below(impl.MaxTerms)), []int64{2, 5, 40, 1000, term}[d.below(5)]))
	}
	return list
}

// number draws one that is often 0 or small.
func (d *draw) number() int64 {
	most := []int64{0, 1, 3, 10, 1000, impl.MaxTerm}[d.below(6)]
	return d.below(2*most+1) - most
}

// pair draws a machine with four numbers, all of them at most so large in size.
func (d *draw) pair(most int64) impl.Pair {
	next := func() int64 { return d.below(2*most+1) - most }
	return impl.Pair{A: next(), B: next(), C: next(), D: next()}
}

// eight draws a machine with eight numbers, which are often 0.
func (d *draw) eight() impl.Eight {
	var e impl.Eight
	most := 1 + d.below(6)
	for i := range e.Top {
		e.Top[i], e.Low[i] = d.below(2*most+1)-most, d.below(2*most+1)-most
		if d.below(3) == 0 {
			e.Low[i] = 0
		}
		if d.below(8) == 0 {
			e.Top[i], e.Low[i] = d.number(), d.number()
		}
	}
	return e
}

// wantTerms checks terms and a code against a model's.
func wantTerms(t *testing.T, what string, got []int64, code int64, want []int64, wantCode int64) {
	t.Helper()
	if code != wantCode || !slices.Equal(got, want) {
		t.Errorf("%s: got %s with %q, want %s with %q", what, cfText(got), impl.CodeName(code), cfText(want), impl.CodeName(wantCode))
	}
}
