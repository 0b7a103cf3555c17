package tests

import (
	"fmt"
	"slices"
	"strings"
	"testing"

	"loop.example/g01242/impl"
)

// zeroArgs are arguments for the functions of chapter 5, of which each takes those it needs.
type zeroArgs struct {
	p, q   []int64
	a, b   impl.Wide
	x, y   impl.Part
	s      impl.Series
	places int64
	text   string
}

// zeroCalls calls each function of chapter 5 and returns, by name, all that it returns; the code is the last one.
func zeroCalls(x zeroArgs) map[string][]any {
	all := func(list ...any) []any { return list }
	return map[string][]any{
		"ValidPoly":    all(impl.ValidPoly(x.p), int64(impl.OK)),
		"ValueAt":      all(impl.ValueAt(x.p, x.a, x.places)),
		"SlopeOf":      all(impl.SlopeOf(x.p)),
		"TimesPoly":    all(impl.TimesPoly(x.p, x.q)),
		"CommonPoly":   all(impl.CommonPoly(x.p, x.q)),
		"ChainOf":      all(impl.ChainOf(x.p)),
		"TurnsAt":      all(impl.TurnsAt(x.p, x.a, x.places)),
		"CountZeros":   all(impl.CountZeros(x.p, x.a, x.b, x.places)),
		"BoundOf":      all(impl.BoundOf(x.p)),
		"PartsOf":      all(impl.PartsOf(x.p)),
		"ValidPart":    all(impl.ValidPart(x.x), int64(impl.OK)),
		"HasOneZero":   all(impl.HasOneZero(x.p, x.x)),
		"RefinePart":   all(impl.RefinePart(x.p, x.x, x.places)),
		"ZeroApprox":   all(impl.ZeroApprox(x.p, x.x, x.places)),
		"ZeroDigits":   all(impl.ZeroDigits(x.p, x.x, x.places)),
		"CommonParts":  all(impl.CommonParts(x.p, x.q, x.x, x.y)),
		"ValidSeries":  all(impl.ValidSeries(x.s), int64(impl.OK)),
		"SeriesApprox": all(impl.SeriesApprox(x.s, x.places)),
		"SeriesTerms":  all(impl.SeriesTerms(x.s, x.places)),
		"SeriesDigits": all(impl.SeriesDigits(x.s, x.places)),
		"PolyText":     all(impl.PolyText(x.p), int64(impl.OK)),
		"ReadPoly":     all(impl.ReadPoly(x.text)),
	}
}

// checkZeroCalls is checkPurity of the functions of chapter 5; what they return, if it is something, is valid.
func checkZeroCalls(t *testing.T, x zeroArgs) map[string][]any {
	t.Helper()
	x.p, x.q = spare(x.p, 51), spare(x.q, 52)
	beforeP, beforeQ := whole(x.p), whole(x.q)
	intact := func() bool { return slices.Equal(whole(x.p), beforeP) && slices.Equal(whole(x.q), beforeQ) }
	results := checkPurity(t, fmt.Sprint(x), func() map[string][]any { return zeroCalls(x) }, intact)
	for name, got := range results {
		for _, result := range got[:len(got)-1] {
			if codeOf(got) == impl.OK && !isValidZero(name, result) {
				t.Errorf("%s of %v: got %v, which is not valid", name, x, result)
			}
		}
	}
	return results
}

func isValidZero(name string, result any) bool {
	areValid := func(list []impl.Wide) bool {
		return len(list) > 0 && !slices.ContainsFunc(list, func(a impl.Wide) bool { return !impl.ValidWide(a) }) && list[len(list)-1] != impl.Wide{}
	}
	switch x := result.(type) {
	case impl.Wide:
		return impl.ValidWide(x)
	case []impl.Wide:
		return areValid(x)
	case [][]impl.Wide:
		return len(x) > 1 && !slices.ContainsFunc(x, func(list []impl.Wide) bool { return !areValid(list) })
	case impl.Part:
		return impl.ValidPart(x)
	case []impl.Part:
		return !slices.ContainsFunc(x, func(y impl.Part) bool { return !impl.ValidPart(y) })
	case []int64:
		return name == "SlopeOf" || impl.ValidPoly(x)
	}
	return true
}

// wantZeroCodes checks the codes of all calls that are named.
func wantZeroCodes(t *testing.T, x zeroArgs, want int64, names ...string) {
	t.Helper()
	wantNamed(t, fmt.Sprint(x), checkZeroCalls(t, x), want, names...)
}

// fineZeros are such that every function returns OK.
func fineZeros() zeroArgs {
	return zeroArgs{p: poly(-2, 0, 1), q: poly(-4, 0, 0, 0, 1), a: small(0), b: small(2), x: part(0, 8, 1), y: part(2, 3, 1),
		s: impl.Series{Num: 1, Den: 2, First: 1, Step: 1}, places: 4, text: "-2 0 1"}
}

var (
	withPlaces = []string{"ValueAt", "TurnsAt", "CountZeros", "RefinePart", "ZeroApprox", "ZeroDigits", "SeriesApprox", "SeriesTerms", "SeriesDigits"}
	withPoly   = []string{"ValueAt", "SlopeOf", "TimesPoly", "CommonPoly", "ChainOf", "TurnsAt", "CountZeros", "BoundOf", "PartsOf", "HasOneZero", "RefinePart", "ZeroApprox", "ZeroDigits", "CommonParts"}
	withChain  = []string{"TurnsAt", "CountZeros", "PartsOf", "HasOneZero", "RefinePart", "ZeroApprox", "ZeroDigits", "CommonParts"}
	withPart   = []string{"HasOneZero", "RefinePart", "ZeroApprox", "ZeroDigits", "CommonParts"}
	withSeries = []string{"SeriesApprox", "SeriesTerms", "SeriesDigits"}
)

// besides returns the names that are not on a list.
func besides(names, without []string) []string {
	return slices.DeleteFunc(slices.Clone(names), func(name string) bool { return slices.Contains(without, name) })
}

func TestPromise1ZerosThatAreFine(t *testing.T) {
	for name, got := range checkZeroCalls(t, fineZeros()) {
		if codeOf(got) != impl.OK {
			t.Errorf("%s: got %d", name, codeOf(got))
		}
	}
}

func TestPromise1ZerosReturnTheSameForAll(t *testing.T) {
	d := draw(55)
	numbers := []int64{-1 << 63, -1, 0, 1, 2, 7, 47, 48, 49, 63, 64, 65, 1000, 1 << 32, 1<<63 - 1}
	polys := append(somePolys(), nil, poly(1), poly(0, 0), poly(1, 0), poly(impl.MaxCoef+1, 1), make([]int64, 20), poly(-1<<63, -1<<63), poly(1<<63-1, -1<<63))
	series := append(someSeries(), impl.Series{}, impl.Series{Num: 1, Den: 1, First: 1}, impl.Series{Num: -1 << 63, Den: -1 << 63, First: -1 << 63, Step: -1 << 63}, impl.Series{Num: 1, Den: 1<<63 - 1, First: 1<<63 - 1, Step: 1<<63 - 1})
	pick := func(n int) int { return int(d.below(int64(n))) }
	for i := range 1200 {
		x := zeroArgs{p: polys[pick(len(polys))], q: polys[pick(len(polys))], a: d.wide(), b: d.wide(), x: impl.Part{Low: d.wide(), High: d.wide(), Places: d.below(65)},
			y: part(d.below(99)-70, d.below(99), d.below(65)), s: series[pick(len(series))], places: numbers[i%len(numbers)]}
		if i%2 == 0 {
			x.places = d.below(20)
			x.a, x.b, x.x, x.y = small(d.below(99)-90), small(d.below(99)), part(d.below(9)-8, d.below(30), d.below(4)), part(d.below(9)-8, d.below(30), d.below(4))
		}
		if i%13 == 0 {
			x.a, x.x.Low, x.y.High = negativeZero, negativeZero, negativeZero
		}
		x.text = strings.Trim(fmt.Sprint(x.p), "[]")
		checkZeroCalls(t, x)
	}
}

// invalidPolys returns polynomials that are not valid, each in one way only.
func invalidPolys() [][]int64 {
	const most = impl.MaxCoef
	return [][]int64{nil, {}, {1}, {0}, {most}, {0, 0}, {1, 0}, {1, 2, 0}, {0, 1, 0}, {1, 1, 1, 1, 1, 1, 1, 1, 0}, {1, 1, 1, 1, 1, 1, 1, 1, 1, 1}, {0, 0, 0, 0, 0, 0, 0, 0, 0, 1}, {0, 1, 0, 0, 0, 0, 0, 0, 0, 0},
		{most + 1, 1}, {-most - 1, 1}, {1, most + 1}, {1, -most - 1}, {1, most + 1, 1}, {1, -most - 1, 1}, {1, 1, 1, 1, 1, 1, 1, 1, most + 1}, {-1 << 63, 1}, {1, -1 << 63}, {1<<63 - 1, 1}, {1, 1<<63 - 1}, make([]int64, 100000)}
}

// outOfPlaces are numbers of places that are not in their range.
var outOfPlaces = []int64{-1, 65, 66, 1 << 32, 1 << 40, -1 << 63, 1<<63 - 1}

func TestPromise1PolysThatAreNotValid(t *testing.T) {
	for _, p := range somePolys() {
		if !impl.ValidPoly(p) {
			t.Errorf("%v is valid", p)
		}
	}
	for _, bad := range invalidPolys() {
		if impl.ValidPoly(bad) || impl.PolyText(bad) != "" || isPoly(bad) {
			t.Errorf("%v is not valid, and has no text", bad)
		}
		// ErrInvalid comes first: also where places are not in their range, ends are in the wrong order, or a product would
		// be too large.
		for _, places := range append(outOfPlaces, 0, 4, 64) {
			x := fineZeros()
			x.p, x.places = bad, places
			wantZeroCodes(t, x, impl.ErrInvalid, withPoly...)
			x.a, x.b = x.b, x.a
			wantZeroCodes(t, x, impl.ErrInvalid, "CountZeros")
			x = fineZeros()
			x.q, x.places = bad, places
			wantZeroCodes(t, x, impl.ErrInvalid, "TimesPoly", "CommonPoly", "CommonParts")
			// Also ahead of what is wrong with the first polynomial or its part.
			x.p, x.x = poly(1, 2, 1), part(5, 9, 0)
			wantZeroCodes(t, x, impl.ErrInvalid, "TimesPoly", "CommonPoly", "CommonParts")
		}
		x := fineZeros()
		x.text = strings.Trim(fmt.Sprint(bad), "[]")
		wantZeroCodes(t, x, impl.ErrSyntax, "ReadPoly")
	}
}

func TestPromise1WidesOfPolysThatAreNotValid(t *testing.T) {
	for _, places := range append(outOfPlaces, 0, 64) {
		x := fineZeros()
		x.a, x.places = negativeZero, places
		// ErrInvalid comes ahead of ErrState as well.
		for _, p := range [][]int64{x.p, poly(1, 2, 1)} {
			x.p = p
			wantZeroCodes(t, x, impl.ErrInvalid, "ValueAt", "TurnsAt", "CountZeros")
		}
		x = fineZeros()
		x.b, x.places = negativeZero, places
		wantZeroCodes(t, x, impl.ErrInvalid, "CountZeros")
		x.a = small(9)
		wantZeroCodes(t, x, impl.ErrInvalid, "CountZeros")
	}
}

// invalidParts returns parts that are not valid, each in one way only.
func invalidParts() []impl.Part {
	return []impl.Part{{}, part(0, 0, 0), part(3, 3, 5), part(1, 0, 0), part(0, -1, 3), part(8, -8, 1), part(0, 8, -1), part(0, 8, 65), part(0, 8, 1<<32), part(0, 8, -1<<63), part(0, 8, 1<<63-1),
		{Low: negativeZero, High: small(8), Places: 1}, {Low: small(-8), High: negativeZero, Places: 1}, {Low: negativeZero, High: negativeZero}}
}

func TestPromise1PartsThatAreNotValid(t *testing.T) {
	for _, x := range []impl.Part{part(0, 1, 0), part(-1, 0, 0), part(0, 1, 64), part(-5, 5, 48), {Low: wide(t, "-"+power2(192, -1)), High: wide(t, power2(192, -1)), Places: 64}} {
		if !impl.ValidPart(x) {
			t.Errorf("%s is valid", partText(x))
		}
	}
	for _, bad := range invalidParts() {
		if impl.ValidPart(bad) {
			t.Errorf("%s is not valid", partText(bad))
		}
		for _, places := range append(outOfPlaces, 0, 4, 64) {
			for _, p := range [][]int64{fineZeros().p, poly(1, 2, 1), poly(1, 0, 1)} {
				x := fineZeros()
				x.p, x.x, x.places = p, bad, places
				wantZeroCodes(t, x, impl.ErrInvalid, withPart...)
				x = fineZeros()
				x.p, x.y = p, bad
				wantZeroCodes(t, x, impl.ErrInvalid, "CommonParts")
			}
		}
	}
}

// invalidSeries returns series that are not valid, each in one way only.
func invalidSeries() []impl.Series {
	list := []impl.Series{{}}
	for _, den := range []int64{1, 0, -1, -2, 1001, 1 << 32, -1 << 63, 1<<63 - 1} {
		list = append(list, impl.Series{Num: 1, Den: den, First: 1, Step: 1}, impl.Series{Num: 1, Den: den, First: 1, Step: 0, Turns: true})
	}
	for _, quotient := range [][2]int64{{0, 2}, {-1, 2}, {2, 2}, {2, 3}, {3, 5}, {501, 1000}, {500, 999}, {1000, 1000}, {0, 1000}, {-500, 1000}, {-1 << 63, 1000}, {1<<63 - 1, 1000}, {-1, -2}} {
		list = append(list, impl.Series{Num: quotient[0], Den: quotient[1], First: 1, Step: 1})
	}
	for _, first := range []int64{0, -1, 1001, 1 << 32, -1 << 63, 1<<63 - 1} {
		list = append(list, impl.Series{Num: 1, Den: 2, First: first, Step: 1}, impl.Series{Num: 1, Den: 2, First: first})
	}
	for _, step := range []int64{-1, 1001, 1 << 32, -1 << 63, 1<<63 - 1} {
		list = append(list, impl.Series{Num: 1, Den: 2, First: 1, Step: step}, impl.Series{Num: 1, Den: 2, First: 1000, Step: step, Turns: true})
	}
	return list
}

func TestPromise1SeriesThatAreNotValid(t *testing.T) {
	for _, s := range someSeries() {
		if !impl.ValidSeries(s) {
			t.Errorf("%v is valid", s)
		}
	}
	for _, bad := range invalidSeries() {
		if impl.ValidSeries(bad) {
			t.Errorf("%v is not valid", bad)
		}
		for _, places := range append(outOfPlaces, 0, 4, 64) {
			x := fineZeros()
			x.s, x.places = bad, places
			wantZeroCodes(t, x, impl.ErrInvalid, withSeries...)
		}
	}
}

func TestPromise1ZeroArgumentsOutOfRange(t *testing.T) {
	for _, places := range outOfPlaces {
		x := fineZeros()
		x.places = places
		wantZeroCodes(t, x, impl.ErrRange, withPlaces...)
		// ErrRange comes ahead of ErrState, of ErrNotFound and of ErrLimit.
		for _, p := range [][]int64{poly(1, 2, 1), poly(1, 0, 1), poly(impl.MaxCoef, -impl.MaxCoef, 999999, -999998, 999997, 1, 1, 1, 1)} {
			x.p, x.a = p, wide(t, "-"+power2(192, -1))
			wantZeroCodes(t, x, impl.ErrRange, "ValueAt", "TurnsAt", "CountZeros", "RefinePart", "ZeroApprox", "ZeroDigits")
		}
	}
	// 0 and MaxPlaces are in the range.
	for _, places := range []int64{0, 1, 64} {
		x := fineZeros()
		x.places = places
		wantZeroCodes(t, x, impl.OK, besides(withPlaces, []string{"RefinePart"})...)
		x.x = part(0, 4, 0)
		wantZeroCodes(t, x, impl.OK, "RefinePart")
	}
	x := fineZeros()
	for _, p := range [][]int64{x.p, poly(1, 2, 1), poly(1, 0, 1)} {
		// Fewer places than those of the part, and ends in the wrong order, come ahead of ErrState and ErrNotFound as well.
		x.p, x.places, x.a, x.b = p, 0, small(3), small(2)
		wantZeroCodes(t, x, impl.ErrRange, "RefinePart", "CountZeros")
	}
}

func TestPromise1ZeroErrorsInOrder(t *testing.T) {
	const most = impl.MaxCoef
	double, none, noChain := poly(1, 2, 1), poly(1, 0, 1), poly(-most, 999999, -999998, 999997, 999983, 999979, 999961, 999959, 999953)
	x := fineZeros()
	// ErrState comes behind ErrRange, and ahead of what is too large for a value, and of a zero that is not there.
	x.p, x.a, x.b = double, wide(t, "-"+power2(192, -1)), wide(t, power2(192, -1))
	x.x = impl.Part{Low: x.a, High: x.b, Places: 4}
	wantZeroCodes(t, x, impl.ErrState, withChain...)
	wantZeroCodes(t, x, impl.ErrLimit, "ValueAt")
	// A chain that cannot be found is ErrLimit, of whatever asks for it.
	x = fineZeros()
	x.p = noChain
	wantZeroCodes(t, x, impl.ErrLimit, append(slices.Clone(withChain), "ChainOf")...)
	wantZeroCodes(t, x, impl.OK, "BoundOf", "SlopeOf", "ValueAt")
	// A value that is too large comes ahead of a zero that is not there.
	x.p, x.x, x.a, x.b = none, impl.Part{Low: wide(t, power2(191, 0)), High: wide(t, power2(191, 1))}, wide(t, power2(191, 0)), wide(t, power2(191, 1))
	wantZeroCodes(t, x, impl.ErrLimit, besides(withChain, []string{"PartsOf"})...)
	x = fineZeros()
	x.p = none
	wantZeroCodes(t, x, impl.ErrNotFound, "RefinePart", "ZeroApprox", "ZeroDigits", "CommonParts")
	wantZeroCodes(t, x, impl.OK, "HasOneZero", "PartsOf", "CountZeros", "TurnsAt")
}

// The errors of the first polynomial and part come before those of the second ones.
func TestPromise1ErrorsOfTheFirstPartComeFirst(t *testing.T) {
	const most = impl.MaxCoef
	double, none, noChain := poly(1, 2, 1), poly(1, 0, 1), poly(-most, 999999, -999998, 999997, 999983, 999979, 999961, 999959, 999953)
	wrong := map[int64][]int64{impl.ErrState: double, impl.ErrNotFound: none, impl.ErrLimit: noChain}
	for first, p := range wrong {
		x := fineZeros()
		x.p = p
		wantZeroCodes(t, x, first, "CommonParts")
		for _, q := range wrong {
			x.q = q
			wantZeroCodes(t, x, first, "CommonParts")
		}
		x = fineZeros()
		x.q = p
		wantZeroCodes(t, x, first, "CommonParts")
	}
	x := fineZeros()
	x.x, x.q = part(-8, 8, 1), double
	wantZeroCodes(t, x, impl.ErrNotFound, "CommonParts")
	x.x, x.q, x.y = fineZeros().x, fineZeros().q, part(-8, 8, 1)
	wantZeroCodes(t, x, impl.ErrNotFound, "CommonParts")
}

// The polynomials of a chain share no memory.
func TestPromise1ChainsShareNothing(t *testing.T) {
	for _, p := range somePolys() {
		chain, code := impl.ChainOf(p)
		if code != impl.OK {
			continue
		}
		for i := range chain {
			before := fmt.Sprint(chain[:i], chain[i+1:])
			fill(chain[i], negativeZero)
			if fmt.Sprint(chain[:i], chain[i+1:]) != before {
				t.Errorf("ChainOf %v: the polynomial %d shares memory with another one", p, i)
			}
		}
	}
}

// Lists and texts with as many elements as there may be come to an end.
func TestPromise1LongZeroArguments(t *testing.T) {
	x := fineZeros()
	x.p, x.q = slices.Repeat([]int64{2}, 500000), slices.Repeat([]int64{2}, 500000)
	for _, text := range []string{strings.Repeat("1", 1000000), strings.Repeat("1 ", 499999) + "1", strings.Repeat(" ", 1000000), strings.Repeat("-", 1000000), strings.Repeat("\xff", 1000000)} {
		x.text = text
		results := zeroCalls(x)
		wantNamed(t, "long arguments", results, impl.ErrInvalid, withPoly...)
		wantNamed(t, "long arguments", results, impl.ErrSyntax, "ReadPoly")
	}
}

// What takes the most work is answered, or refused.
func TestPromise1ZerosThatTakeMuchWork(t *testing.T) {
	low, high := wide(t, "-"+power2(191, 0)), wide(t, power2(191, 0))
	for _, p := range [][]int64{poly(-7, 3), poly(0, 1), poly(7, -1), poly(-2, 0, 1), wilkinson, chebyshev, deepPoly, deeperPoly} {
		for _, places := range []int64{0, 1, 64} {
			for _, x := range []impl.Part{{Low: low, High: high}, {Low: low, High: high, Places: 64}, {Low: low, High: small(3), Places: 0}, {High: high, Places: 0}, part(-1<<40, 1<<40, 0), part(0, 1<<50, 2)} {
				args := fineZeros()
				args.p, args.q, args.x, args.y, args.places = p, p, x, x, places
				checkZeroCalls(t, args)
			}
		}
	}
}
