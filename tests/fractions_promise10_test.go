package tests

import (
	"fmt"
	"math/big"
	"slices"
	"testing"

	"loop.example/g01242/impl"
)

// pairRun is a machine with four numbers and terms for it.
type pairRun struct {
	m impl.Pair
	x []int64
}

// eightRun is a machine with eight numbers and terms for it.
type eightRun struct {
	e    impl.Eight
	x, y []int64
}

func (r pairRun) String() string  { return fmt.Sprint(r.m, " of ", cfText(r.x)) }
func (r eightRun) String() string { return fmt.Sprint(r.e, " of ", cfText(r.x), " and ", cfText(r.y)) }

// somePairRuns returns machines with four numbers, listed ones and drawn ones, each with some terms.
func somePairRuns() []pairRun {
	const term = impl.MaxTerm
	pairs := []impl.Pair{
		{}, {A: 1, D: 1}, {A: -1, D: 1}, {B: 1, C: 1}, {B: -1, C: 1}, {A: 1, B: 1, D: 2}, {A: 2, D: 1}, {A: 1, D: 2}, {A: 1}, {B: 1}, {C: 1}, {D: 1}, {D: -5}, {A: 7, C: 3}, {A: 7, C: -3}, {B: 7, D: 3}, {B: -7, D: 3},
		{A: 3, B: 3, C: 3, D: 3}, {A: 6, B: 3, C: 2, D: 1}, {A: 1, B: -2, C: 1, D: -2}, {B: 1, C: 1, D: -2}, {A: 1, C: 2, D: 1}, {A: -1, C: -2, D: -1}, {A: term, D: 1}, {A: 1, D: term}, {A: term, B: term, C: term, D: term},
		{A: -term, B: term, C: term, D: -term}, {A: 1, B: term, D: 1}, {A: 1, B: -term, D: 1}, {A: term, C: term - 1, D: 1}, {B: 1, C: term}, {A: 355, B: -113, C: 22, D: 7},
	}
	lists := someCfs()
	d := draw(1010)
	var runs []pairRun
	for i, m := range pairs {
		for k := range 30 {
			runs = append(runs, pairRun{m, lists[(31*i+7*k)%len(lists)]})
		}
	}
	for i := range 3000 {
		m := d.pair([]int64{1, 3, 10, 1000}[i%4])
		if i%9 == 0 {
			m = impl.Pair{A: d.number(), B: d.number(), C: d.number(), D: d.number()}
		}
		runs = append(runs, pairRun{m, d.terms(1+int(d.below(12)), []int64{2, 6, 50}[i%3])}, pairRun{m, lists[d.below(int64(len(lists)))]})
	}
	return runs
}

// someEightRuns returns machines with eight numbers, listed ones and drawn ones, each with some terms.
func someEightRuns() []eightRun {
	lists := someCfs()
	d := draw(1111)
	var runs []eightRun
	add := func(e impl.Eight) {
		x, y := d.terms(1+int(d.below(8)), 5), d.terms(1+int(d.below(8)), 5)
		runs = append(runs, eightRun{e, x, y}, eightRun{e, lists[d.below(int64(len(lists)))], y}, eightRun{e, x, lists[d.below(int64(len(lists)))]}, eightRun{e, lists[d.below(int64(len(lists)))], lists[d.below(int64(len(lists)))]})
	}
	sum, product := impl.SumEight(), impl.ProductEight()
	less := impl.Eight{Top: [4]int64{0, 1, -1, 0}, Low: [4]int64{0, 0, 0, 1}}
	quotient := impl.Eight{Top: [4]int64{0, 1, 0, 0}, Low: [4]int64{0, 0, 1, 0}}
	mean := impl.Eight{Top: [4]int64{2, 0, 0, 0}, Low: [4]int64{0, 1, 1, 0}}
	for range 150 {
		for _, e := range []impl.Eight{sum, product, less, quotient, mean, {}, {Top: sum.Low, Low: sum.Top}, {Top: [4]int64{1}, Low: [4]int64{1}}, {Top: [4]int64{0, 0, 0, -7}, Low: [4]int64{0, 0, 0, 3}}} {
			add(e)
		}
	}
	for range 1500 {
		add(d.eight())
		add(impl.Eight{Top: [4]int64{d.below(5), d.below(5), d.below(5), d.below(5)}, Low: [4]int64{d.below(5), d.below(5), d.below(5), d.below(5)}})
	}
	return runs
}

func TestPromise10PairsMoveAsTheRulesTell(t *testing.T) {
	met := tally{}
	for _, r := range somePairRuns() {
		want, wantCode := pairMoves(r.m, r.x)
		got, code := impl.PairMoves(r.m, r.x)
		met[code]++
		if code != wantCode || !slices.Equal(got, want) {
			t.Fatalf("PairMoves %v: got %s with %d, want %s with %d", r, movesText(got), code, movesText(want), wantCode)
		}
		terms, code := impl.PairTerms(r.m, r.x)
		wantTerms(t, fmt.Sprint("PairTerms ", r), terms, code, givenOf(want), wantCode)
	}
	met.want(t, impl.OK, 2000)
	met.want(t, impl.ErrLimit, 300)
	met.want(t, impl.ErrState, 100)
}

func TestPromise10EightsMoveAsTheRulesTell(t *testing.T) {
	met := tally{}
	for _, r := range someEightRuns() {
		want, wantCode := eightMoves(r.e, r.x, r.y)
		got, code := impl.EightMoves(r.e, r.x, r.y)
		met[code]++
		if code != wantCode || !slices.Equal(got, want) {
			t.Fatalf("EightMoves %v: got %s with %d, want %s with %d", r, movesText(got), code, movesText(want), wantCode)
		}
		terms, code := impl.EightTerms(r.e, r.x, r.y)
		wantTerms(t, fmt.Sprint("EightTerms ", r), terms, code, givenOf(want), wantCode)
	}
	met.want(t, impl.OK, 3000)
	met.want(t, impl.ErrLimit, 1000)
	met.want(t, impl.ErrState, 300)
}

// wantValue checks terms that a machine gives against what its map makes of the values.
func wantValue(t *testing.T, what string, got []int64, code int64, value *big.Rat, isValue bool) {
	t.Helper()
	if code != impl.OK {
		return
	}
	if !isValue {
		t.Errorf("%s: got %s where it divides by 0", what, cfText(got))
		return
	}
	want, wantCode := termsOf(value)
	wantTerms(t, what, got, code, want, wantCode)
	if !impl.ValidTerms(got) {
		t.Errorf("%s: %s are not valid", what, cfText(got))
	}
}

func TestPromise10PairsGiveTheTermsOfTheirValues(t *testing.T) {
	given := 0
	for _, r := range somePairRuns() {
		got, code := impl.PairTerms(r.m, r.x)
		value, ok := quotientAt(eightOf(r.m), cfValue(r.x), rat(1, 1))
		wantValue(t, fmt.Sprint("PairTerms ", r), got, code, value, ok)
		given += len(got)
	}
	if given < 5000 {
		t.Errorf("%d terms were given only", given)
	}
}

func TestPromise10EightsGiveTheTermsOfTheirValues(t *testing.T) {
	given := 0
	for _, r := range someEightRuns() {
		got, code := impl.EightTerms(r.e, r.x, r.y)
		value, ok := quotientAt(r.e, cfValue(r.x), cfValue(r.y))
		wantValue(t, fmt.Sprint("EightTerms ", r), got, code, value, ok)
		given += len(got)
	}
	if given < 10000 {
		t.Errorf("%d terms were given only", given)
	}
}

// Sums and products are those of the values, and the order of both numbers does not change them, but for the moves.
func TestPromise10SumsAndProducts(t *testing.T) {
	d, met := draw(1212), tally{}
	for range 800 {
		x, y := d.terms(10, 9), d.terms(10, 9)
		a, b := cfValue(x), cfValue(y)
		for i, e := range []impl.Eight{impl.SumEight(), impl.ProductEight()} {
			want, wantCode := termsOf([]*big.Rat{plus(a, b), times(a, b)}[i])
			got, code := impl.EightTerms(e, x, y)
			met[code]++
			wantTerms(t, fmt.Sprint("EightTerms ", eightRun{e, x, y}), got, code, want, wantCode)
			back, code := impl.EightTerms(e, y, x)
			wantTerms(t, fmt.Sprint("EightTerms ", eightRun{e, y, x}), back, code, want, wantCode)
		}
	}
	met.want(t, impl.OK, 1500)
}

// What moves tell leads to the machine's end: all terms are taken, in order, and behind them an infinite one, in turns.
func TestPromise10MovesTakeInTurns(t *testing.T) {
	for _, r := range someEightRuns() {
		moves, code := impl.EightMoves(r.e, r.x, r.y)
		if code != impl.OK {
			continue
		}
		var kinds []int8
		taken := map[int8][]int64{}
		for _, move := range moves {
			if move.Kind != impl.MvGive {
				kinds = append(kinds, move.Kind)
				taken[move.Kind] = append(taken[move.Kind], move.Term)
			} else if len(kinds) < 2 {
				t.Errorf("EightMoves %v: %s gives before it has taken of both", r, movesText(moves))
			}
		}
		var want []int8
		for i := range max(len(r.x), len(r.y)) + 1 {
			if i <= len(r.x) {
				want = append(want, impl.MvLeft)
			}
			if i <= len(r.y) {
				want = append(want, impl.MvRight)
			}
		}
		if !slices.Equal(kinds, want) || !slices.Equal(taken[impl.MvLeft], append(slices.Clone(r.x), 0)) || !slices.Equal(taken[impl.MvRight], append(slices.Clone(r.y), 0)) {
			t.Errorf("EightMoves %v: %s does not take all terms in turns", r, movesText(moves))
		}
	}
}
