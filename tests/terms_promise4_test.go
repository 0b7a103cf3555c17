package tests

import (
	"math/big"
	"testing"

	"loop.example/g01242/impl"
)

// decideModel looks for more and more places, until something is seen.
func decideModel(x []impl.Node, budget int64, look func(m *termModel, n int64) int64) (seen, places, code int64) {
	m := &termModel{term: x}
	code = modelled(func() {
		for n := int64(0); n <= budget; n++ {
			if got := look(m, n); got != 0 {
				seen, places = got, n
				return
			}
		}
		panic(modelStop(impl.ErrBudget))
	})
	return seen, places, code
}

// orderModel returns the sign of b less a if its size is 3 or more.
func orderModel(a, b *big.Int) int64 {
	d := bigDiff(b, a)
	if d.CmpAbs(big.NewInt(3)) < 0 {
		return 0
	}
	return int64(d.Sign())
}

func TestPromise4SignsThatAreDecidedAreRight(t *testing.T) {
	met := tally{}
	eachNode(func(x []impl.Node, node int16) {
		number := numbersOf(x)[node]
		for _, budget := range []int64{0, 1, 20, 64} {
			want, at, code := decideModel(x, budget, func(m *termModel, n int64) int64 {
				a := m.ask(node, n)
				if a.CmpAbs(big.NewInt(2)) < 0 {
					return 0
				}
				return int64(a.Sign())
			})
			met[code]++
			if code == int64(modelTooLong) {
				continue
			}
			sign, places, gotCode := impl.SignWithin(x, int64(node), budget)
			if sign != want || places != at || gotCode != code {
				t.Errorf("SignWithin %d of\n%sgot %d for %d with %d, want %d for %d with %d", node, impl.TermText(x), sign, places, gotCode, want, at, code)
			}
			if code == impl.OK && (number == nil || sign != int64(number.Sign())) {
				t.Errorf("SignWithin %d of\n%sgot %d for %v", node, impl.TermText(x), sign, number)
			}
		}
	})
	met.want(t, impl.OK, 3000)
	met.want(t, impl.ErrBudget, 500)
	met.want(t, impl.ErrLimit, 10)
}

func TestPromise4OrdersThatAreDecidedAreRight(t *testing.T) {
	met := tally{}
	eachNode(func(x []impl.Node, a int16) {
		numbers := numbersOf(x)
		for b := range int16(len(x)) {
			budget := []int64{0, 2, 30, 64}[(a+b)%4]
			want, at, code := decideModel(x, budget, func(m *termModel, n int64) int64 {
				first := m.ask(a, n+2)
				return orderModel(first, m.ask(b, n+2))
			})
			met[code]++
			if code == int64(modelTooLong) {
				continue
			}
			less, places, gotCode := impl.LessWithin(x, int64(a), int64(b), budget)
			if less != (want > 0) || places != at || gotCode != code {
				t.Errorf("LessWithin %d and %d of\n%sgot %v for %d with %d, want %d for %d with %d", a, b, impl.TermText(x), less, places, gotCode, want, at, code)
			}
			if code == impl.OK && (numbers[a] == nil || numbers[b] == nil || numbers[a].Cmp(numbers[b]) != int(-want)) {
				t.Errorf("LessWithin %d and %d of\n%sgot %v for %v and %v", a, b, impl.TermText(x), less, numbers[a], numbers[b])
			}
		}
	})
	met.want(t, impl.OK, 3000)
	met.want(t, impl.ErrBudget, 500)
	met.want(t, impl.ErrLimit, 50)
}

func checkSide(t *testing.T, x []impl.Node, a, b, c int16, budget int64) int64 {
	t.Helper()
	want, at, code := decideModel(x, budget, func(m *termModel, n int64) int64 {
		p := m.ask(a, n+2)
		r := m.ask(c, n+2)
		q := m.ask(b, n+2)
		if orderModel(p, r) > 0 {
			return 1
		}
		if orderModel(r, q) > 0 {
			return 2
		}
		return 0
	})
	if code == int64(modelTooLong) {
		return code
	}
	side, places, gotCode := impl.WhichSide(x, int64(a), int64(b), int64(c), budget)
	if side != want || places != at || gotCode != code {
		t.Errorf("WhichSide %d, %d, %d of\n%sgot %d for %d with %d, want %d for %d with %d", a, b, c, impl.TermText(x), side, places, gotCode, want, at, code)
	}
	numbers := numbersOf(x)
	if side == 1 && numbers[a].Cmp(numbers[c]) >= 0 || side == 2 && numbers[c].Cmp(numbers[b]) >= 0 {
		t.Errorf("WhichSide %d, %d, %d of\n%sgot %d", a, b, c, impl.TermText(x), side)
	}
	return code
}

func TestPromise4SidesThatAreDecidedAreRight(t *testing.T) {
	met := tally{}
	d := draw(5)
	for _, x := range someTerms() {
		for range 12 {
			pick := func() int16 { return int16(d.next() >> 33 % uint64(len(x))) }
			a, b, c := pick(), pick(), pick()
			met[checkSide(t, x, a, b, c, []int64{0, 3, 64}[d.next()>>33%3])]++
		}
	}
	met.want(t, impl.OK, 2000)
	met.want(t, impl.ErrBudget, 200)
	met.want(t, impl.ErrLimit, 50)
}

// If a is less than b, a third number is seen to be on one side, however near it is to one of both.
func TestPromise4OneSideCanBeDecided(t *testing.T) {
	x := term(ratio(1, 3), ratio(333334, 1000000), ratio(0, 1), pi, ratio(666667, 2000000), two(impl.KdMin, 0, 1), one(impl.KdNeg, 3))
	for c := range int64(len(x)) {
		side, places, code := impl.WhichSide(x, 0, 1, c, 40)
		if side == 0 || places > 24 || code != impl.OK {
			t.Errorf("WhichSide of %d: got %d for %d with %d", c, side, places, code)
		}
	}
}
