package tests

import (
	"fmt"
	"math/big"
	"slices"
	"testing"

	"loop.example/g01242/impl"
)

// someRoots returns numbers of which roots are told: all small ones, those near squares, those with long periods, and
// drawn ones.
func someRoots() []int64 {
	var list []int64
	for n := range int64(300) {
		list = append(list, n)
	}
	for _, root := range []int64{31, 316, 999, 1000} {
		for _, plus := range []int64{-2, -1, 0, 1, 2} {
			if n := root*root + plus; n <= impl.MaxRootOf {
				list = append(list, n)
			}
		}
	}
	list = append(list, 421, 541, 661, 991, 1021, 999999, 999997, 999983, 909451, 966211, 969406)
	d := draw(909)
	for range 150 {
		list = append(list, d.below(impl.MaxRootOf+1))
	}
	return list
}

// rootList returns terms of a root, with the period again and again.
func rootList(n int64, count int) []int64 {
	first, period, _ := impl.RootTerms(n)
	list := []int64{first}
	for len(list) < count {
		list = append(list, period...)
	}
	return list[:count]
}

func TestPromise9RootsHaveTheirTerms(t *testing.T) {
	parity := map[int]int{}
	for _, n := range someRoots() {
		first, period, code := impl.RootTerms(n)
		if want := new(big.Int).Sqrt(big.NewInt(n)).Int64(); first != want || code != impl.OK {
			t.Errorf("RootTerms %d: got %d with %d, want %d", n, first, code, want)
		}
		if isSquare(n) {
			if len(period) > 0 {
				t.Errorf("RootTerms %d: got the period %v of a square", n, period)
			}
			continue
		}
		parity[len(period)%2]++
		if len(period) == 0 || len(period) > impl.MaxPeriod {
			t.Fatalf("RootTerms %d: the period has %d terms", n, len(period))
		}
		// The period comes twice at least, and ends with its first term that is twice the first one.
		if got, want := rootList(n, 1+2*len(period)), rootTerms(n, 1+2*len(period)); !slices.Equal(got, want) {
			t.Errorf("RootTerms %d: got %v, want %v", n, got, want)
		}
		if slices.Index(period, 2*first) != len(period)-1 {
			t.Errorf("RootTerms %d: the period %v does not end just where it comes again", n, period)
		}
		// All but the last one are the same in both directions.
		inner := slices.Clone(period[:len(period)-1])
		slices.Reverse(inner)
		if !slices.Equal(inner, period[:len(inner)]) {
			t.Errorf("RootTerms %d: the period %v is not the same from its end on", n, period)
		}
	}
	if parity[0] < 50 || parity[1] < 50 {
		t.Errorf("there were %v periods with an even and an odd number of terms", parity)
	}
}

// No root has a period with more than MaxPeriod terms: the longest one of all has 2664.
func TestPromise9NoPeriodIsTooLong(t *testing.T) {
	longest, of := 0, int64(0)
	for n := range int64(impl.MaxRootOf + 1) {
		// Long periods are those of numbers behind 900000; of the others a part is tried.
		if n < 900000 && n%17 > 0 {
			continue
		}
		_, period, code := impl.RootTerms(n)
		if code != impl.OK {
			t.Fatalf("RootTerms %d: got %d", n, code)
		}
		if len(period) > longest {
			longest, of = len(period), n
		}
	}
	if longest != 2664 || of != 969406 {
		t.Errorf("the longest period has %d terms, of %d", longest, of)
	}
}

func TestPromise9TermsWithAnIndex(t *testing.T) {
	d := draw(919)
	for _, n := range someRoots() {
		first, period, _ := impl.RootTerms(n)
		length := int64(len(period))
		for _, k := range []int64{0, 1, 2, length - 1, length, length + 1, 2 * length, 1000, 999999999, 1000000000, d.below(1000000001)} {
			want, wantCode := first, int64(impl.OK)
			switch {
			case k < 0:
				want, wantCode = 0, impl.ErrRange
			case k > 0 && length == 0:
				want, wantCode = 0, impl.ErrNotFound
			case k > 0:
				want = period[(k-1)%length]
			}
			if got, code := impl.RootTermAt(n, k); got != want || code != wantCode {
				t.Errorf("RootTermAt %d and %d: got %d with %d, want %d with %d", n, k, got, code, want, wantCode)
			}
		}
	}
}

func TestPromise9ConvergentsOfRoots(t *testing.T) {
	met := tally{}
	for _, n := range someRoots() {
		if isSquare(n) {
			continue
		}
		all := bigConvergents(rootList(n, 1001))
		for _, k := range []int{0, 1, 2, 3, 10, 50, 100, 110, 120, 130, 150, 200, 276, 277, 999, 1000} {
			x, y, code := impl.RootConvergent(n, int64(k))
			met[code]++
			want := all[k]
			if _, ok := wideOfBig(want[0]); !ok {
				wantCode(t, fmt.Sprint("RootConvergent (over) ", n, " and ", k), x, code, impl.ErrLimit)
				wantCode(t, fmt.Sprint("RootConvergent (under) ", n, " and ", k), y, code, impl.ErrLimit)
				continue
			}
			wantWide(t, fmt.Sprint("RootConvergent (over) ", n, " and ", k), x, code, want[0])
			wantWide(t, fmt.Sprint("RootConvergent (under) ", n, " and ", k), y, code, want[1])
		}
	}
	met.want(t, impl.OK, 1000)
	met.want(t, impl.ErrLimit, 500)
}

// The last convergent of each root that is not too large is told, and from the next one on none is.
func TestPromise9ConvergentsUpToTheLimit(t *testing.T) {
	for _, n := range []int64{2, 3, 5, 61, 421, 999999, 999983, 969406} {
		all := bigConvergents(rootList(n, 1001))
		last := slices.IndexFunc(all, func(parts [2]*big.Int) bool { return parts[0].BitLen() > 192 }) - 1
		for _, k := range []int64{int64(last), int64(last) + 1, int64(last) + 2, 1000} {
			x, y, code := impl.RootConvergent(n, k)
			wantWide(t, fmt.Sprint("RootConvergent (over) ", n, " and ", k), x, code, all[k][0])
			if k == int64(last) {
				wantWide(t, fmt.Sprint("RootConvergent (under) ", n, " and ", k), y, code, all[k][1])
			}
			if want := map[bool]int64{true: impl.OK, false: impl.ErrLimit}[k == int64(last)]; code != want {
				t.Errorf("RootConvergent %d and %d: got %d, want %d", n, k, code, want)
			}
		}
	}
}

func TestPromise9UnitsSolveTheirEquation(t *testing.T) {
	met := tally{}
	for n := range int64(2500) {
		x, y, code := impl.UnitOf(n)
		met[code]++
		if isSquare(n) {
			if code != impl.ErrState || x != (impl.Wide{}) || y != (impl.Wide{}) {
				t.Errorf("UnitOf %d: got %v and %v with %d", n, bigOf(x), bigOf(y), code)
			}
			continue
		}
		// All solutions are convergents: the first one that solves the equation is the least one.
		all := bigConvergents(rootList(n, 400))
		least := slices.IndexFunc(all, func(parts [2]*big.Int) bool { return isOne(norm(n, parts[0], parts[1])) })
		if least < 0 {
			if code != impl.ErrLimit {
				t.Errorf("UnitOf %d: got %v and %v with %d, which is none of the convergents", n, bigOf(x), bigOf(y), code)
			}
			continue
		}
		wantWide(t, fmt.Sprint("UnitOf (x) ", n), x, code, all[least][0])
		if code == impl.OK {
			wantWide(t, fmt.Sprint("UnitOf (y) ", n), y, code, all[least][1])
		}
	}
	met.want(t, impl.OK, 2000)
	met.want(t, impl.ErrState, 50)
}

// The least solutions are found by trying all y.
func TestPromise9UnitsAreLeast(t *testing.T) {
	for n := range int64(61) {
		if isSquare(n) {
			continue
		}
		y := int64(1)
		for !isSquare(n*y*y + 1) {
			y++
		}
		x := new(big.Int).Sqrt(big.NewInt(n*y*y + 1))
		gotX, gotY, code := impl.UnitOf(n)
		wantWide(t, fmt.Sprint("UnitOf (x) ", n), gotX, code, x)
		wantWide(t, fmt.Sprint("UnitOf (y) ", n), gotY, code, big.NewInt(y))
	}
}

func TestPromise9UnitsThatAreTooLarge(t *testing.T) {
	met := tally{}
	for _, n := range someRoots() {
		if n < 300 || isSquare(n) {
			continue
		}
		x, y, code := impl.UnitOf(n)
		met[code]++
		_, period, _ := impl.RootTerms(n)
		length := len(period)
		if length%2 == 1 {
			length *= 2
		}
		want := bigConvergents(rootList(n, length))[length-1]
		if !isOne(norm(n, want[0], want[1])) {
			t.Fatalf("the unit of %d is another one than %v and %v", n, want[0], want[1])
		}
		wantWide(t, fmt.Sprint("UnitOf (x) ", n), x, code, want[0])
		if code == impl.OK {
			wantWide(t, fmt.Sprint("UnitOf (y) ", n), y, code, want[1])
		}
	}
	met.want(t, impl.OK, 20)
	met.want(t, impl.ErrLimit, 50)
}
