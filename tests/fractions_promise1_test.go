package tests

import (
	"fmt"
	"runtime"
	"slices"
	"strings"
	"testing"

	"loop.example/g01242/impl"
)

// fractionArgs are arguments for the functions of chapter 4, of which each takes those it needs.
type fractionArgs struct {
	x, y []int64
	r    impl.Ratio
	n, k int64
	most int64
	m    impl.Pair
	e    impl.Eight
	path string
	text string
}

// fractionCalls calls each function of chapter 4 and returns, by name, all that it returns; the code is the last one.
func fractionCalls(x fractionArgs) map[string][]any {
	all := func(list ...any) []any { return list }
	return map[string][]any{
		"ValidTerms":     all(impl.ValidTerms(x.x), int64(impl.OK)),
		"TermsOf":        all(impl.TermsOf(x.r)),
		"RatioOf":        all(impl.RatioOf(x.x)),
		"ConvergentsOf":  all(impl.ConvergentsOf(x.x)),
		"CompareTerms":   all(impl.CompareTerms(x.x, x.y)),
		"BestFraction":   all(impl.BestFraction(x.r, x.most)),
		"NeighboursOf":   all(impl.NeighboursOf(x.r, x.most)),
		"PathOf":         all(impl.PathOf(x.r)),
		"RatioOfPath":    all(impl.RatioOfPath(x.path)),
		"RootTerms":      all(impl.RootTerms(x.n)),
		"RootTermAt":     all(impl.RootTermAt(x.n, x.k)),
		"RootConvergent": all(impl.RootConvergent(x.n, x.k)),
		"UnitOf":         all(impl.UnitOf(x.n)),
		"PairTerms":      all(impl.PairTerms(x.m, x.x)),
		"PairMoves":      all(impl.PairMoves(x.m, x.x)),
		"EightTerms":     all(impl.EightTerms(x.e, x.x, x.y)),
		"EightMoves":     all(impl.EightMoves(x.e, x.x, x.y)),
		"SumEight":       all(impl.SumEight(), int64(impl.OK)),
		"ProductEight":   all(impl.ProductEight(), int64(impl.OK)),
		"TermsText":      all(impl.TermsText(x.x), int64(impl.OK)),
		"ReadTerms":      all(impl.ReadTerms(x.text)),
	}
}

// checkFractionCalls is checkPurity of the functions of chapter 4; what they return, if it is something, is valid.
func checkFractionCalls(t *testing.T, x fractionArgs) map[string][]any {
	t.Helper()
	x.x, x.y = spare(x.x, 51), spare(x.y, 52)
	beforeX, beforeY := whole(x.x), whole(x.y)
	intact := func() bool { return slices.Equal(whole(x.x), beforeX) && slices.Equal(whole(x.y), beforeY) }
	results := checkPurity(t, fmt.Sprint(x), func() map[string][]any { return fractionCalls(x) }, intact)
	for name, got := range results {
		for _, result := range got[:len(got)-1] {
			if codeOf(got) == impl.OK && !isValidFraction(name, result) {
				t.Errorf("%s of %v: got %v, which is not valid", name, x, result)
			}
		}
	}
	return results
}

func isValidFraction(name string, result any) bool {
	switch x := result.(type) {
	case impl.Ratio:
		return impl.ValidRatio(x)
	case []impl.Ratio:
		return len(x) > 0 && !slices.ContainsFunc(x, func(r impl.Ratio) bool { return !impl.ValidRatio(r) })
	case impl.Wide:
		return impl.ValidWide(x) && !x.Neg
	case []int64:
		return name == "RootTerms" || impl.ValidTerms(x)
	case []impl.Move:
		return impl.ValidTerms(givenOf(x))
	}
	return true
}

// wantFractionCodes checks the codes of all calls that are named.
func wantFractionCodes(t *testing.T, x fractionArgs, want int64, names ...string) {
	t.Helper()
	wantNamed(t, fmt.Sprint(x), checkFractionCalls(t, x), want, names...)
}

// fineFractions are such that every function returns OK.
func fineFractions() fractionArgs {
	return fractionArgs{x: cf("1;2,3"), y: cf("0;4"), r: frac(43, 19), n: 7, k: 5, most: 5, m: pairOf(1, 1, 0, 2), e: impl.SumEight(), path: "RL", text: "2;3"}
}

func TestPromise1FractionsThatAreFine(t *testing.T) {
	for name, got := range checkFractionCalls(t, fineFractions()) {
		if codeOf(got) != impl.OK {
			t.Errorf("%s: got %d", name, codeOf(got))
		}
	}
}

func TestPromise1FractionsReturnTheSameForAll(t *testing.T) {
	d := draw(44)
	numbers := []int64{-1 << 63, -1, 0, 1, 2, 7, 999, 1000, 1001, 99999, 100000, 100001, 999999, 1000000, 1000001, 999999999, 1000000000, 1000000001, 1<<63 - 1}
	ratios := append(someRatios(), impl.Ratio{}, frac(2, 4), frac(1, -2), frac(-1<<63, 1), frac(1, -1<<63), frac(1<<63-1, 1<<63-1))
	lists := append(someCfs(), nil, []int64{1, 1}, []int64{2, 0}, []int64{-1 << 63}, []int64{1, 1<<63 - 1}, ones(impl.MaxTerms+1))
	paths := append(somePaths(), strings.Repeat("L", 201), "LRX")
	for i := range 1500 {
		x := fractionArgs{x: lists[d.below(int64(len(lists)))], y: lists[d.below(int64(len(lists)))], r: ratios[d.below(int64(len(ratios)))], n: numbers[i%len(numbers)], k: numbers[i/7%len(numbers)], most: numbers[i/3%len(numbers)],
			m: d.pair(1 << d.below(32)), e: d.eight(), path: paths[d.below(int64(len(paths)))]}
		if i%2 == 0 {
			x.n, x.k, x.most = d.below(1000001), d.below(1001), 1+d.below(50)
			x.x, x.y = d.terms(9, 9), d.terms(9, 9)
		}
		if i%11 == 0 {
			x.m.B, x.e.Low[i%4], x.e.Top[i%4] = numbers[i%len(numbers)], numbers[i%len(numbers)], numbers[i*3%len(numbers)]
		}
		x.text = cfText(x.x)
		checkFractionCalls(t, x)
	}
}

func TestPromise1TermListsThatAreNotValid(t *testing.T) {
	const term = impl.MaxTerm
	for _, bad := range [][]int64{nil, {}, {term + 1}, {-term - 1}, {-1 << 63}, {0, 1}, {7, 1}, {7, 0}, {7, -3}, {7, 0, 3}, {7, -1, 3}, {7, 3, 1}, {7, term + 1}, {7, term + 1, 2}, {-term - 1, 2}, ones(impl.MaxTerms + 1), slices.Repeat([]int64{1}, impl.MaxTerms), make([]int64, 100000)} {
		x := fineFractions()
		x.x, x.text = bad, cfText(bad)
		// ErrInvalid comes first: also where a number of a machine is too large, or it gives nothing.
		for range 2 {
			wantFractionCodes(t, x, impl.ErrInvalid, "RatioOf", "ConvergentsOf", "CompareTerms", "PairTerms", "PairMoves", "EightTerms", "EightMoves")
			wantFractionCodes(t, x, impl.ErrSyntax, "ReadTerms")
			x.m, x.e = pairOf(term+1, 0, 0, 0), impl.Eight{Low: [4]int64{0, 0, 0, -term - 1}}
		}
		if impl.ValidTerms(bad) || impl.TermsText(bad) != "" {
			t.Errorf("%s are not valid, and have no text", cfText(bad))
		}
		x = fineFractions()
		x.y = bad
		for range 2 {
			wantFractionCodes(t, x, impl.ErrInvalid, "CompareTerms", "EightTerms", "EightMoves")
			wantFractionCodes(t, x, impl.OK, "RatioOf", "ConvergentsOf", "PairTerms", "PairMoves")
			x.e = impl.Eight{Top: [4]int64{term + 1}}
		}
	}
}

func TestPromise1RatiosOfFractionsThatAreNotValid(t *testing.T) {
	const part = impl.MaxPart
	for _, bad := range []impl.Ratio{{}, frac(1, 0), frac(0, 2), frac(1, -1), frac(2, 4), frac(-3, 9), frac(part+1, 1), frac(-part-1, 1), frac(1, part+1), frac(-1<<63, 1), frac(1, -1<<63), frac(1<<63-1, 1)} {
		x := fineFractions()
		x.r = bad
		for _, most := range []int64{5, 0, 100001, -1 << 63} {
			x.most = most
			wantFractionCodes(t, x, impl.ErrInvalid, "TermsOf", "BestFraction", "NeighboursOf", "PathOf")
		}
	}
	// A bound that is not in its range comes ahead of ratios that are too large.
	x := fineFractions()
	x.r = frac(part, 1)
	for most, want := range map[int64]int64{0: impl.ErrRange, 1: impl.ErrLimit, 100000: impl.ErrLimit, 100001: impl.ErrRange} {
		x.most = most
		wantFractionCodes(t, x, want, "NeighboursOf")
	}
}

func TestPromise1FractionArgumentsOutOfRange(t *testing.T) {
	x := fineFractions()
	for _, most := range []int64{1, 2, 100000} {
		x.most = most
		wantFractionCodes(t, x, impl.OK, "BestFraction", "NeighboursOf")
	}
	for _, most := range []int64{0, -1, 100001, 1 << 32, -1 << 63, 1<<63 - 1} {
		x.most = most
		wantFractionCodes(t, x, impl.ErrRange, "BestFraction", "NeighboursOf")
	}
	x = fineFractions()
	for _, n := range []int64{-1, 1000001, 1 << 32, -1 << 63, 1<<63 - 1} {
		for _, k := range []int64{0, 5, -1, 1001, 1000000001} {
			x.n, x.k = n, k
			wantFractionCodes(t, x, impl.ErrRange, "RootTerms", "RootTermAt", "RootConvergent", "UnitOf")
		}
	}
	// An index that is not in its range comes ahead of a term that is not there.
	for _, n := range []int64{2, 9, 0, 1, 1000000} {
		x.n = n
		for _, k := range []int64{-1, 1000000001, 1 << 32, -1 << 63, 1<<63 - 1} {
			x.k = k
			wantFractionCodes(t, x, impl.ErrRange, "RootTermAt", "RootConvergent")
		}
		for _, k := range []int64{1001, 1000000000} {
			x.k = k
			wantFractionCodes(t, x, impl.ErrRange, "RootConvergent")
			wantFractionCodes(t, x, map[bool]int64{true: impl.OK, false: impl.ErrNotFound}[n == 2], "RootTermAt")
		}
		x.k = 1000
		wantFractionCodes(t, x, map[bool]int64{true: impl.ErrLimit, false: impl.ErrNotFound}[n == 2], "RootConvergent")
	}
}

// A number of a machine that is too large comes ahead of what it does.
func TestPromise1MachineNumbersOutOfRange(t *testing.T) {
	const term = impl.MaxTerm
	for _, bad := range []int64{term + 1, -term - 1, 1 << 32, impl.MaxCell, -1 << 63, 1<<63 - 1} {
		for at := range 8 {
			x := fineFractions()
			list := [4]int64{0, 0, 0, 0}
			list[at%4] = bad
			x.m = pairOf(list[0], list[1], list[2], list[3])
			x.e = impl.Eight{Low: list}
			if at < 4 {
				x.e = impl.Eight{Top: list, Low: [4]int64{1, 1, 1, 1}}
			}
			wantFractionCodes(t, x, impl.ErrRange, "PairTerms", "PairMoves", "EightTerms", "EightMoves")
		}
	}
}

// Lists, paths and texts with as many elements as there may be come to an end.
func TestPromise1LongFractionArguments(t *testing.T) {
	x := fineFractions()
	x.x, x.y = slices.Repeat([]int64{2}, 500000), slices.Repeat([]int64{2}, 500000)
	x.path = strings.Repeat("LR", 500000)
	for _, text := range []string{strings.Repeat("1", 1000000), "1;" + strings.Repeat("2,", 499999) + "2", strings.Repeat(";", 1000000), strings.Repeat(",", 1000000), "1;" + strings.Repeat(",", 999998), strings.Repeat("\xff", 1000000)} {
		x.text = text
		results := fractionCalls(x)
		for name, want := range map[string]int64{"RatioOf": impl.ErrInvalid, "ConvergentsOf": impl.ErrInvalid, "CompareTerms": impl.ErrInvalid, "PairTerms": impl.ErrInvalid, "PairMoves": impl.ErrInvalid, "EightTerms": impl.ErrInvalid, "EightMoves": impl.ErrInvalid, "RatioOfPath": impl.ErrLimit, "ReadTerms": impl.ErrSyntax} {
			if codeOf(results[name]) != want {
				t.Errorf("%s of a long argument: got %d, want %d", name, codeOf(results[name]), want)
			}
		}
	}
}

// However a machine ends, who gives it terms has come to an end as well.
func TestPromise1NothingRunsBehindACall(t *testing.T) {
	before := runtime.NumGoroutine()
	full := slices.Repeat([]int64{impl.MaxTerm}, impl.MaxTerms)
	for range 300 {
		for _, m := range []impl.Pair{pairOf(1, 0, 0, 1), pairOf(1, 0, 0, 0), pairOf(impl.MaxTerm, 0, 0, 1), pairOf(impl.MaxTerm+1, 0, 0, 1)} {
			impl.PairTerms(m, full)
			impl.EightTerms(eightOf(m), full, full[:2])
			impl.EightMoves(eightOf(m), full[:1], full)
		}
	}
	wantNoMoreRunning(t, before)
}
