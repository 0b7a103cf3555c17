package tests

import (
	"fmt"
	"math/big"
	"slices"
	"testing"

	"loop.example/g01242/impl"
)

// wantBool checks a boolean result and a code.
func wantBool(t *testing.T, what string, got bool, code int64, want bool, wantCode int64) {
	t.Helper()
	if got != want || code != wantCode {
		t.Errorf("%s: got %t with %q, want %t with %q", what, got, impl.CodeName(code), want, impl.CodeName(wantCode))
	}
}

// wantNumber checks a number and a code.
func wantNumber(t *testing.T, what string, got, code, want, wantCode int64) {
	t.Helper()
	if got != want || code != wantCode {
		t.Errorf("%s: got %d with %q, want %d with %q", what, got, impl.CodeName(code), want, impl.CodeName(wantCode))
	}
}

func TestPromise11PartsAreMadeByTheRules(t *testing.T) {
	met := tally{}
	for _, p := range somePolys() {
		var want []impl.Part
		wantCode := modelled(func() { want = modelParts(p) })
		if wantCode != impl.OK {
			want = nil
		}
		got, code := impl.PartsOf(p)
		met[code]++
		if !slices.Equal(got, want) || code != wantCode {
			t.Errorf("PartsOf %v: got %s with %q, want %s with %q", p, partsText(got), impl.CodeName(code), partsText(want), impl.CodeName(wantCode))
		}
	}
	met.want(t, impl.OK, 200)
	met.want(t, impl.ErrState, 50)
	met.want(t, impl.ErrLimit, 10)
	met.want(t, impl.ErrBudget, 2)
}

func TestPromise11PartsHaveOneZeroEachAndTogetherAll(t *testing.T) {
	none, many := 0, 0
	for _, p := range somePolys() {
		parts, code := impl.PartsOf(p)
		if code != impl.OK {
			continue
		}
		list := bigPoly(bigs(p...))
		for i, x := range parts {
			if !impl.ValidPart(x) || list.zerosIn(bigPartOf(x)) != 1 {
				t.Errorf("PartsOf %v: %s is no part with one zero", p, partText(x))
			}
			has, code := impl.HasOneZero(p, x)
			wantBool(t, fmt.Sprint("HasOneZero ", p, " ", partText(x)), has, code, true, impl.OK)
			if i > 0 {
				before := bigPartOf(parts[i-1])
				if bigRat(before.high, pow2(before.places)).Cmp(bigRat(bigOf(x.Low), pow2(x.Places))) > 0 {
					t.Errorf("PartsOf %v: %s is not ascending", p, partsText(parts))
				}
			}
		}
		if all := list.zerosIn(everywhere()); all != int64(len(parts)) {
			t.Errorf("PartsOf %v: %d parts, and %d zeros", p, len(parts), all)
		}
		if len(parts) == 0 {
			none++
		}
		if len(parts) > 4 {
			many++
		}
	}
	if none < 10 || many < 30 {
		t.Errorf("%d polynomials had no parts, and %d more than four", none, many)
	}
}

// Zeros that are known lie in the parts, in their order; those at an end of a part belong to the one below.
func TestPromise11PartsHaveTheZerosThatAreKnown(t *testing.T) {
	d := draw(1100)
	met, atEnds := tally{}, 0
	for range 300 {
		p := poly(1 - 2*d.below(2))
		var zeros []*big.Rat
		for range 1 + d.below(6) {
			under := []int64{1, 1, 1, 2, 3, 4}[d.below(6)]
			over := d.below(15) - 7
			zero := rat(over, under)
			next := productOf(p, poly(-zero.Num().Int64(), zero.Denom().Int64()))
			if isPoly(next) && !slices.ContainsFunc(zeros, func(x *big.Rat) bool { return x.Cmp(zero) == 0 }) {
				p, zeros = next, append(zeros, zero)
			}
		}
		slices.SortFunc(zeros, func(x, y *big.Rat) int { return x.Cmp(y) })
		parts, code := impl.PartsOf(p)
		met[code]++
		if len(zeros) == 0 || code != impl.OK {
			continue
		}
		if len(parts) != len(zeros) {
			t.Errorf("PartsOf %v: got %s for the zeros %v", p, partsText(parts), zeros)
			continue
		}
		for i, x := range parts {
			low, high := bigRat(bigOf(x.Low), pow2(x.Places)), bigRat(bigOf(x.High), pow2(x.Places))
			if low.Cmp(zeros[i]) >= 0 || high.Cmp(zeros[i]) < 0 {
				t.Errorf("PartsOf %v: %v is not in %s", p, zeros[i], partText(x))
			}
			if high.Cmp(zeros[i]) == 0 {
				atEnds++
			}
		}
	}
	met.want(t, impl.OK, 250)
	if atEnds < 100 {
		t.Errorf("only %d zeros lay at an end", atEnds)
	}
}

// end draws an end of a part, often a whole number and mostly near 0.
func (d *draw) end(places int64) *big.Int {
	size := []int64{1, 3, 10, 1000, impl.MaxCoef}[d.below(5)]
	n := new(big.Int).Mul(big.NewInt(d.below(2*size+1)-size), pow2(places))
	if d.below(3) > 0 {
		n.Add(n, big.NewInt(d.below(1<<min(places, 20)+1)))
	}
	return n
}

func TestPromise11ZerosAreCounted(t *testing.T) {
	d := draw(1101)
	met := tally{}
	for _, p := range somePolys() {
		var chain []bigPoly
		chainCode := modelled(func() { chain = simpleChain(bigs(p...)) })
		for range 12 {
			places := []int64{0, 0, 1, 2, 5, 17, 40, 63, 64}[d.below(9)]
			x := bigPart{low: d.end(places), high: d.end(places), places: places}
			if x.low.Cmp(x.high) > 0 {
				x.low, x.high = x.high, x.low
			}
			var want int64
			wantCode := chainCode
			if wantCode == impl.OK {
				wantCode = modelled(func() { want = countIn(chain, x) })
			}
			what := fmt.Sprint("CountZeros ", p, " from ", x.low, " to ", x.high, " for ", places)
			got, code := impl.CountZeros(p, bigWide(x.low), bigWide(x.high), places)
			met[code]++
			wantNumber(t, what, got, code, want, wantCode)
			if zeros := bigPoly(bigs(p...)); code == impl.OK && got != zeros.zerosIn(x) {
				t.Errorf("%s: got %d, but there are %d zeros", what, got, zeros.zerosIn(x))
			}
			if x.low.Cmp(x.high) < 0 {
				has, code := impl.HasOneZero(p, x.part())
				wantBool(t, what, has, code, want == 1 && wantCode == impl.OK, wantCode)
			}
			checkTurns(t, p, chain, chainCode, x.low, places)
		}
	}
	met.want(t, impl.OK, 1200)
	met.want(t, impl.ErrState, 500)
	met.want(t, impl.ErrLimit, 300)
}

func checkTurns(t *testing.T, p []int64, chain []bigPoly, chainCode int64, a *big.Int, places int64) {
	t.Helper()
	var want int64
	wantCode := chainCode
	if wantCode == impl.OK {
		wantCode = modelled(func() { want = turnsIn(chain, a, places) })
	}
	got, code := impl.TurnsAt(p, bigWide(a), places)
	wantNumber(t, fmt.Sprint("TurnsAt ", p, " at ", a, " for ", places), got, code, want, wantCode)
}

func TestPromise11ValuesAreThoseOfThePolynomial(t *testing.T) {
	d := draw(1102)
	met := tally{}
	for _, p := range somePolys() {
		list := bigPoly(bigs(p...))
		degree := int64(len(p) - 1)
		for range 12 {
			places := d.below(impl.MaxPlaces + 1)
			if d.below(2) == 0 {
				places = d.below(8)
			}
			a := bigOf(d.wide())
			if d.below(3) > 0 {
				a = d.end(places)
			}
			var want *big.Int
			refused := modelled(func() { want = list.at(a, places) })
			what := fmt.Sprint("ValueAt ", p, " at ", a, " for ", places)
			got, code := impl.ValueAt(p, bigWide(a), places)
			met[code]++
			if refused != impl.OK {
				wantCode(t, what, got, code, refused)
				continue
			}
			wantWide(t, what, got, code, want)
			exact := times(list.exactly(bigRat(a, pow2(places))), new(big.Rat).SetInt(pow2(places*degree)))
			if !exact.IsInt() || exact.Num().Cmp(bigOf(got)) != 0 {
				t.Errorf("%s: got %v, want %v", what, bigOf(got), exact)
			}
		}
	}
	met.want(t, impl.OK, 2000)
	met.want(t, impl.ErrLimit, 1000)
}

func TestPromise11ChainsFollowTheRules(t *testing.T) {
	met, lengths := tally{}, map[int]int{}
	for _, p := range somePolys() {
		list := bigPoly(bigs(p...))
		var want []bigPoly
		wantCode := modelled(func() { want = chainOf(list) })
		got, code := impl.ChainOf(p)
		met[code]++
		if code != wantCode || code != impl.OK && len(got) != 0 || code == impl.OK && !slices.EqualFunc(got, want, func(x []impl.Wide, y bigPoly) bool { return sameWides(x, y) }) {
			t.Errorf("ChainOf %v: got %v with %q, want %v with %q", p, got, impl.CodeName(code), want, impl.CodeName(wantCode))
			continue
		}
		if code != impl.OK {
			continue
		}
		lengths[len(got)]++
		if simple := len(got[len(got)-1]) == 1; simple != isSimple(p) {
			t.Errorf("ChainOf %v: ends with %v", p, got[len(got)-1])
		}
	}
	met.want(t, impl.OK, 300)
	met.want(t, impl.ErrLimit, 10)
	for length := 2; length <= impl.MaxDegree+1; length++ {
		if lengths[length] < 2 {
			t.Errorf("only %d chains of %d polynomials", lengths[length], length)
		}
	}
}

func TestPromise11BoundsHaveAllZerosBetweenThem(t *testing.T) {
	for _, p := range somePolys() {
		got, code := impl.BoundOf(p)
		wantNumber(t, fmt.Sprint("BoundOf ", p), got, code, boundOf(p), impl.OK)
		list := bigPoly(bigs(p...))
		if !isSimple(p) {
			continue
		}
		high := pow2(got)
		if between := list.zerosInside(bigPart{low: new(big.Int).Neg(high), high: high}); between != list.zerosIn(everywhere()) {
			t.Errorf("BoundOf %v: only %d zeros lie between the opposite of 2 to the power %d and this", p, between, got)
		}
	}
}

// All that asks for the chain refuses polynomials that are not simple; what does not ask for it takes them.
func TestPromise11MultipleZerosAreErrState(t *testing.T) {
	x := part(-8, 8, 1)
	count := 0
	for _, p := range somePolys() {
		if _, code := impl.ChainOf(p); code != impl.OK || isSimple(p) {
			continue
		}
		count++
		fine := fineZeros()
		fine.p, fine.x = p, x
		wantZeroCodes(t, fine, impl.ErrState, "TurnsAt", "CountZeros", "PartsOf", "HasOneZero", "RefinePart", "ZeroApprox", "ZeroDigits", "CommonParts")
		wantZeroCodes(t, fine, impl.OK, "SlopeOf", "CommonPoly", "ChainOf", "BoundOf", "ValidPart")
	}
	if count < 50 {
		t.Errorf("only %d polynomials had multiple zeros", count)
	}
}

func TestPromise11RefinedPartsLieInThoseBefore(t *testing.T) {
	met := tally{}
	polys, parts := simpleOnes(t)
	for i, p := range polys {
		list := bigPoly(bigs(p...))
		for _, x := range parts[i] {
			before := x
			for places := x.Places; places <= impl.MaxPlaces; places += 1 + places/3 {
				var want bigPart
				wantCode := modelled(func() { want = modelRefine(oneZero(p, x), x, places) })
				what := fmt.Sprint("RefinePart ", p, " ", partText(x), " for ", places)
				got, code := impl.RefinePart(p, x, places)
				met[code]++
				if code != wantCode || code != impl.OK && got != (impl.Part{}) || code == impl.OK && got != want.part() {
					t.Errorf("%s: got %s with %q, want %v with %q", what, partText(got), impl.CodeName(code), want, impl.CodeName(wantCode))
				}
				if code != impl.OK {
					break
				}
				fine := bigPartOf(got)
				if bigDiff(fine.high, fine.low).Int64() != 1 || fine.places != places || list.zerosIn(fine) != 1 {
					t.Errorf("%s: got %s, which is no unit with a zero", what, partText(got))
				}
				outer := bigPartOf(before).upTo(places)
				if fine.low.Cmp(outer.low) < 0 || fine.high.Cmp(outer.high) > 0 {
					t.Errorf("%s: got %s, which does not lie in %s", what, partText(got), partText(before))
				}
				before = got
			}
		}
	}
	met.want(t, impl.OK, 2000)
	met.want(t, impl.ErrLimit, 200)
}

// A part with no zero, or with more than one, has none that could be refined.
func TestPromise11PartsWithoutJustOneZeroAreErrNotFound(t *testing.T) {
	d := draw(1103)
	met := tally{}
	polys, _ := simpleOnes(t)
	for _, p := range polys {
		for range 3 {
			x := bigPart{low: big.NewInt(d.below(31) - 20), places: d.below(4)}
			x.high = bigSum(x.low, big.NewInt(1+d.below(60)))
			args := fineZeros()
			args.p, args.x, args.places = p, x.part(), 4
			args.q, args.y = p, x.part()
			want := int64(impl.OK)
			if bigPoly(bigs(p...)).zerosIn(x) != 1 {
				want = impl.ErrNotFound
			}
			met[want]++
			wantZeroCodes(t, args, want, "RefinePart", "ZeroApprox", "ZeroDigits", "CommonParts")
			wantZeroCodes(t, args, impl.OK, "HasOneZero")
		}
	}
	met.want(t, impl.OK, 100)
	met.want(t, impl.ErrNotFound, 100)
}
