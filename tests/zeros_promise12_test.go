package tests

import (
	"fmt"
	"math/big"
	"slices"
	"strings"
	"testing"

	"loop.example/g01242/impl"
)

// eachZero calls something for each part of some polynomials.
func eachZero(t *testing.T, call func(p []int64, x impl.Part)) {
	t.Helper()
	polys, parts := simpleOnes(t)
	for i, p := range polys {
		for _, x := range parts[i] {
			call(p, x)
		}
	}
}

func TestPromise12ApproximationsOfZerosAreWithinAUnit(t *testing.T) {
	met := tally{}
	eachZero(t, func(p []int64, x impl.Part) {
		for _, places := range []int64{0, 1, 2, 5, 11, 20, 33, 50, 64} {
			var want *big.Int
			refused := modelled(func() { want = modelZero(oneZero(p, x), x, places) })
			what := fmt.Sprint("ZeroApprox ", p, " ", partText(x), " for ", places)
			got, code := impl.ZeroApprox(p, x, places)
			met[code]++
			if refused != impl.OK {
				wantCode(t, what, got, code, refused)
				continue
			}
			wantWide(t, what, got, code, want)
			if !isUnitOff(p, x, bigOf(got), places) {
				t.Errorf("%s: got %v, which is more than a unit off", what, bigOf(got))
			}
		}
	})
	met.want(t, impl.OK, 2000)
	met.want(t, impl.ErrLimit, 300)
}

// A part may be a larger or a smaller one, with its ends at any places: it has the same zero.
func TestPromise12ApproximationsOfOtherParts(t *testing.T) {
	d := draw(1200)
	count := 0
	eachZero(t, func(p []int64, x impl.Part) {
		places := x.Places + d.below(9)
		fine, code := impl.RefinePart(p, x, places)
		if code != impl.OK {
			return
		}
		for _, more := range []int64{0, 1, 3} {
			other := impl.Part{Low: small(0), High: small(0), Places: places}
			other.Low = bigWide(new(big.Int).Sub(bigOf(fine.Low), big.NewInt(d.below(3))))
			other.High = bigWide(new(big.Int).Add(bigOf(fine.High), big.NewInt(d.below(3))))
			if bigPoly(bigs(p...)).zerosIn(bigPartOf(other)) != 1 {
				continue
			}
			for _, asked := range []int64{0, max(0, places-3), places, places + more} {
				got, code := impl.ZeroApprox(p, other, asked)
				if code == impl.OK && !isUnitOff(p, x, bigOf(got), asked) {
					t.Errorf("ZeroApprox %v %s for %d: got %v, which is more than a unit off", p, partText(other), asked, bigOf(got))
				}
				if code == impl.OK {
					count++
				}
			}
		}
	})
	if count < 2000 {
		t.Errorf("only %d approximations", count)
	}
}

func TestPromise12DigitsOfZerosTellTheNumber(t *testing.T) {
	met, zeros := tally{}, 0
	eachZero(t, func(p []int64, x impl.Part) {
		zeros++
		for _, count := range []int64{0, 1, 2, 7, 21, 64} {
			if count > 21 && zeros%4 > 0 {
				continue
			}
			met[checkZeroDigits(t, p, x, count)]++
		}
	})
	met.want(t, impl.OK, 1500)
	met.want(t, impl.ErrLimit, 100)
}

func checkZeroDigits(t *testing.T, p []int64, x impl.Part, count int64) int64 {
	t.Helper()
	var whole, last *big.Int
	var digits []int8
	refused := modelled(func() {
		chain := oneZero(p, x)
		whole, digits, last = modelDigits(count, func(n int64) *big.Int { return modelZero(chain, x, n) })
	})
	what := fmt.Sprint("ZeroDigits ", p, " ", partText(x), " for ", count)
	gotWhole, got, code := impl.ZeroDigits(p, x, count)
	if refused != impl.OK {
		wantCode(t, what, gotWhole, code, refused)
		if len(got) != 0 {
			t.Errorf("%s: got %v together with an error", what, got)
		}
		return refused
	}
	wantWide(t, what, gotWhole, code, whole)
	if !slices.Equal(got, digits) {
		t.Errorf("%s: got %s, want %s", what, textOf(got), textOf(digits))
	}
	value, code := impl.ValueOfDigits(gotWhole, got)
	wantWide(t, what, value, code, last)
	if !isUnitOff(p, x, bigOf(value), count) {
		t.Errorf("%s: got %v and %s, which is more than a unit off", what, bigOf(gotWhole), textOf(got))
	}
	return impl.OK
}

func TestPromise12DigitsOfZerosNeverChange(t *testing.T) {
	zeros, long := 0, 0
	eachZero(t, func(p []int64, x impl.Part) {
		zeros++
		if zeros%3 > 0 {
			return
		}
		var full impl.Wide
		var all []int8
		code := int64(impl.ErrLimit)
		for _, count := range []int64{64, 62, 45, 28, 20, 11, 3, 0} {
			if code != impl.OK {
				full, all, code = impl.ZeroDigits(p, x, count)
				continue
			}
			if whole, some, code := impl.ZeroDigits(p, x, count); whole != full || !slices.Equal(some, all[:count]) || code != impl.OK {
				t.Errorf("ZeroDigits %v %s for %d: got %v %s with %d, and for %d %v %s", p, partText(x), count, bigOf(whole), textOf(some), code, len(all), bigOf(full), textOf(all))
			}
		}
		if len(all) == impl.MaxPlaces {
			long++
		}
	})
	if long < 20 {
		t.Errorf("only %d zeros had %d digits", long, impl.MaxPlaces)
	}
}

func TestPromise12ZerosOfFactorsAreZerosOfProducts(t *testing.T) {
	met, equal, apart := tally{}, 0, 0
	d := draw(1201)
	polys, parts := simpleOnes(t)
	for range 400 {
		i := int(d.below(int64(len(polys))))
		k := int(d.below(int64(len(polys))))
		p := polys[i]
		product, code := impl.TimesPoly(p, polys[k])
		if code != impl.OK {
			continue
		}
		others, code := impl.PartsOf(product)
		met[code]++
		if code != impl.OK {
			continue
		}
		for _, x := range parts[i] {
			found := 0
			for _, y := range others {
				same, code := impl.CommonParts(p, product, x, y)
				back, otherCode := impl.CommonParts(product, p, y, x)
				if code != impl.OK || otherCode != impl.OK || same != back {
					t.Errorf("CommonParts %v %v %s %s: got %t and %t with %d and %d", p, product, partText(x), partText(y), same, back, code, otherCode)
				}
				if same {
					found++
					equal++
				} else {
					apart++
				}
			}
			if found != 1 {
				t.Errorf("the zero of %v in %s is %d zeros of %v", p, partText(x), found, product)
			}
		}
	}
	met.want(t, impl.OK, 60)
	if equal < 200 || apart < 200 {
		t.Errorf("%d zeros were equal, and %d were not", equal, apart)
	}
}

func TestPromise12CommonPartsAreThoseOfEqualZeros(t *testing.T) {
	d := draw(1202)
	met, equal := tally{}, map[bool]int{}
	check := func(p, q []int64, x, y impl.Part) {
		t.Helper()
		var want bool
		refused := modelled(func() { want = modelCommonParts(p, q, x, y) })
		what := fmt.Sprint("CommonParts ", p, " ", q, " ", partText(x), " ", partText(y))
		got, code := impl.CommonParts(p, q, x, y)
		met[code]++
		wantBool(t, what, got, code, want && refused == impl.OK, refused)
		if code != impl.OK {
			return
		}
		equal[got]++
		common := euclid(bigs(p...), bigs(q...))
		if truth := len(common) > 1 && common.zerosIn(bigPartOf(x).inCommon(bigPartOf(y))) > 0; got != truth {
			t.Errorf("%s: got %t, but that both have a zero in common is %t", what, got, truth)
		}
	}
	for range 500 {
		shared := d.factored()
		p, q := productOf(shared, d.factored()), productOf(shared, d.factored())
		if !isPoly(p) || !isPoly(q) {
			continue
		}
		lefts, _ := impl.PartsOf(p)
		rights, _ := impl.PartsOf(q)
		for _, x := range lefts {
			for _, y := range rights {
				check(p, q, x, y)
				if fine, code := impl.RefinePart(q, y, y.Places+d.below(12)); code == impl.OK {
					check(p, q, x, fine)
				}
			}
		}
		check(p, q, part(-1<<20, 1<<20, 0), part(-1<<19, 1<<18, 2))
	}
	met.want(t, impl.OK, 500)
	met.want(t, impl.ErrNotFound, 20)
	met.want(t, impl.ErrState, 20)
	if equal[true] < 100 || equal[false] < 100 {
		t.Errorf("%v zeros were equal", equal)
	}
}

func TestPromise12CommonDivisors(t *testing.T) {
	d := draw(1203)
	met, lengths := tally{}, map[int]int{}
	list := somePolys()
	for i := range 1500 {
		p, q := list[d.below(int64(len(list)))], list[d.below(int64(len(list)))]
		if i%2 == 0 {
			shared := d.factored()
			p, q = productOf(shared, d.factored()), productOf(shared, poly(1-2*d.below(2)), d.factored())
		}
		if !isPoly(p) || !isPoly(q) {
			continue
		}
		var want bigPoly
		refused := modelled(func() { want = commonOf(bigs(p...), bigs(q...)) })
		got, code := impl.CommonPoly(p, q)
		met[code]++
		what := fmt.Sprint("CommonPoly ", p, " ", q)
		if code != refused || code != impl.OK && len(got) != 0 || code == impl.OK && !sameWides(got, want) {
			t.Errorf("%s: got %v with %d, want %s with %d", what, got, code, want.text(), refused)
		}
		if code != impl.OK {
			continue
		}
		lengths[len(got)]++
		if truth := euclid(bigs(p...), bigs(q...)); !sameWides(got, truth) {
			t.Errorf("%s: got %v, want %s", what, got, truth.text())
		}
	}
	met.want(t, impl.OK, 700)
	met.want(t, impl.ErrLimit, 10)
	for length := 1; length <= 5; length++ {
		if lengths[length] < 10 {
			t.Errorf("only %d divisors with %d coefficients", lengths[length], length)
		}
	}
}

func TestPromise12ProductsAndSlopes(t *testing.T) {
	d := draw(1204)
	met := tally{}
	list := somePolys()
	for _, p := range list {
		slope, code := impl.SlopeOf(p)
		want := make([]int64, len(p)-1)
		for i := range want {
			want[i] = int64(i+1) * p[i+1]
		}
		if !slices.Equal(slope, want) || code != impl.OK {
			t.Errorf("SlopeOf %v: got %v with %d, want %v", p, slope, code, want)
		}
		for range 6 {
			q := list[d.below(int64(len(list)))]
			got, code := impl.TimesPoly(p, q)
			met[code]++
			product := productOf(p, q)
			if isPoly(product) != (code == impl.OK) || code == impl.OK && !slices.Equal(got, product) || code != impl.OK && (code != impl.ErrLimit || len(got) != 0) {
				t.Errorf("TimesPoly %v %v: got %v with %d, want %v", p, q, got, code, product)
			}
		}
	}
	met.want(t, impl.OK, 500)
	met.want(t, impl.ErrLimit, 500)
}

func TestPromise12LimitsOfSeriesAreWithinAUnit(t *testing.T) {
	for _, s := range someSeries() {
		limit := limitOf(s)
		for _, places := range []int64{0, 1, 2, 8, 33, 63, 64} {
			want, terms := modelSeries(s, places)
			what := fmt.Sprint("the series ", s, " for ", places)
			got, code := impl.SeriesApprox(s, places)
			wantWide(t, what, got, code, want)
			if !isUnitAway(bigOf(got), limit, places) {
				t.Errorf("%s: got %v, which is more than a unit off", what, bigOf(got))
			}
			count, code := impl.SeriesTerms(s, places)
			wantNumber(t, what, count, code, terms, impl.OK)
		}
		full, all, code := impl.SeriesDigits(s, impl.MaxPlaces)
		if code != impl.OK || len(all) != impl.MaxPlaces {
			t.Errorf("SeriesDigits of %v: got %s with %d", s, textOf(all), code)
			continue
		}
		for _, count := range []int64{0, 1, 5, 40, 64} {
			whole, digits, last := modelDigits(count, func(n int64) *big.Int { sum, _ := modelSeries(s, n); return sum })
			gotWhole, got, code := impl.SeriesDigits(s, count)
			wantWide(t, fmt.Sprint("SeriesDigits of ", s), gotWhole, code, whole)
			if !slices.Equal(got, digits) || gotWhole != full || !slices.Equal(got, all[:count]) {
				t.Errorf("SeriesDigits of %v for %d: got %s, want %s; %d digits are %s", s, count, textOf(got), textOf(digits), len(all), textOf(all))
			}
			if value, _ := impl.ValueOfDigits(gotWhole, got); bigOf(value).Cmp(last) != 0 || !isUnitAway(last, limit, count) {
				t.Errorf("SeriesDigits of %v for %d: they tell %v", s, count, bigOf(value))
			}
		}
	}
}

func TestPromise12PolysAreReadFromTheirTexts(t *testing.T) {
	for _, p := range somePolys() {
		want := strings.Trim(fmt.Sprint(p), "[]")
		if text := impl.PolyText(p); text != want {
			t.Errorf("PolyText %v: got %q", p, text)
		}
		if back, code := impl.ReadPoly(want); !slices.Equal(back, p) || code != impl.OK {
			t.Errorf("ReadPoly %q: got %v with %d", want, back, code)
		}
	}
}

// Of all short texts just those of polynomials are read.
func TestPromise12ShortTextsOfPolys(t *testing.T) {
	const bytes = " -0127+\n"
	met := tally{}
	var try func(text string, left int)
	try = func(text string, left int) {
		p, code := impl.ReadPoly(text)
		met[code]++
		if code == impl.OK && (!isPoly(p) || strings.Trim(fmt.Sprint(p), "[]") != text) {
			t.Errorf("ReadPoly %q: got %v", text, p)
		}
		if code != impl.OK && (code != impl.ErrSyntax || len(p) != 0) {
			t.Errorf("ReadPoly %q: got %v with %d", text, p, code)
		}
		for i := range len(bytes) {
			if left > 0 {
				try(text+bytes[i:i+1], left-1)
			}
		}
	}
	try("", 5)
	// Each of them has just one text.
	if met[impl.OK] != shortPolys(5) {
		t.Errorf("%d texts were read, and there are %d", met[impl.OK], shortPolys(5))
	}
}

// shortPolys returns how many polynomials have texts of at most so many bytes, with the digits 0, 1, 2 and 7.
func shortPolys(most int) int {
	// How many integers have a text of so many bytes, and how many of these are not 0.
	integers := func(bytes int) (int, int) {
		sizes := func(digits int) int {
			if digits < 1 {
				return 0
			}
			count := 3
			for range digits - 1 {
				count *= 4
			}
			return count
		}
		others := sizes(bytes) + sizes(bytes-1)
		if bytes == 1 {
			return others + 1, others
		}
		return others, others
	}
	var count func(left int, first bool) int
	count = func(left int, first bool) int {
		found := 0
		for bytes := 1; bytes <= left; bytes++ {
			all, last := integers(bytes)
			if !first {
				found += last
			}
			found += all * count(left-bytes-1, false)
		}
		return found
	}
	return count(most, true)
}
