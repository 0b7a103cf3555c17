package tests

import (
	"fmt"
	"math/big"
	"slices"
	"strings"
	"testing"

	"loop.example/g01242/impl"
)

func TestPromise8TermsAndRatiosAreFoundFromEachOther(t *testing.T) {
	met := tally{}
	for _, r := range someRatios() {
		want, wantCode := termsOf(ratOf(r))
		list, code := impl.TermsOf(r)
		wantTerms(t, fmt.Sprint("TermsOf ", r), list, code, want, wantCode)
		met[code]++
		if code != impl.OK {
			continue
		}
		if !impl.ValidTerms(list) {
			t.Errorf("TermsOf %v: %s are not valid", r, cfText(list))
		}
		if back, code := impl.RatioOf(list); back != r || code != impl.OK {
			t.Errorf("RatioOf %s: got %v with %d, want %v", cfText(list), back, code, r)
		}
	}
	met.want(t, impl.OK, 500)
	met.want(t, impl.ErrLimit, 10)
}

func TestPromise8RatiosAndTermsAreFoundFromEachOther(t *testing.T) {
	met := tally{}
	for _, list := range someCfs() {
		r, code := impl.RatioOf(list)
		wantRatio(t, "RatioOf "+cfText(list), r, code, cfValue(list))
		met[code]++
		if code == impl.OK {
			back, code := impl.TermsOf(r)
			wantTerms(t, fmt.Sprint("TermsOf ", r), back, code, list, impl.OK)
		}
	}
	met.want(t, impl.OK, 100)
	met.want(t, impl.ErrLimit, 50)
}

func TestPromise8ConvergentsAreTheValuesOfBeginnings(t *testing.T) {
	met := tally{}
	for _, list := range someCfs() {
		var want []impl.Ratio
		wantCode := int64(impl.OK)
		for i := range list {
			r, code := ratioOf(cfValue(list[:i+1]))
			if code != impl.OK {
				want, wantCode = nil, code
				break
			}
			want = append(want, r)
		}
		got, code := impl.ConvergentsOf(list)
		met[code]++
		if code != wantCode || !slices.Equal(got, want) {
			t.Errorf("ConvergentsOf %s: got %v with %d, want %v with %d", cfText(list), got, code, want, wantCode)
		}
	}
	met.want(t, impl.OK, 100)
	met.want(t, impl.ErrLimit, 50)
}

func TestPromise8TermsAreComparedByTheirValues(t *testing.T) {
	list := someCfs()
	for i, a := range list {
		for j, b := range list {
			if i > 150 && j%7 > 0 {
				continue
			}
			want := int64(cfValue(a).Cmp(cfValue(b)))
			if got, code := impl.CompareTerms(a, b); got != want || code != impl.OK {
				t.Errorf("CompareTerms %s and %s: got %d with %d, want %d", cfText(a), cfText(b), got, code, want)
			}
		}
		// Lists one of which begins with the other one.
		for end := 1; end < len(a); end++ {
			if !areTerms(a[:end]) {
				continue
			}
			want := int64(cfValue(a).Cmp(cfValue(a[:end])))
			got, code := impl.CompareTerms(a, a[:end])
			back, _ := impl.CompareTerms(a[:end], a)
			if got != want || back != -want || code != impl.OK {
				t.Errorf("CompareTerms %s and its first %d terms: got %d and %d with %d, want %d", cfText(a), end, got, back, code, want)
			}
		}
	}
}

func TestPromise8BestFractionsAreAsNearAsTold(t *testing.T) {
	for _, r := range someRatios() {
		for _, most := range []int64{1, 2, 3, 4, 5, 7, 12, 30} {
			got, code := impl.BestFraction(r, most)
			wantRatio(t, fmt.Sprint("BestFraction ", r, " and ", most), got, code, nearest(ratOf(r), most))
		}
	}
}

func TestPromise8NeighboursAreNext(t *testing.T) {
	met := tally{}
	for _, r := range someRatios() {
		for _, most := range []int64{1, 2, 3, 4, 5, 7, 12, 30} {
			least, greatest := beside(ratOf(r), most)
			low, lowCode := ratioOf(least)
			high, highCode := ratioOf(greatest)
			want := max(lowCode, highCode)
			if want != impl.OK {
				low, high = impl.Ratio{}, impl.Ratio{}
			}
			gotLow, gotHigh, code := impl.NeighboursOf(r, most)
			met[code]++
			if gotLow != low || gotHigh != high || code != want {
				t.Errorf("NeighboursOf %v and %d: got %v and %v with %d, want %v and %v with %d", r, most, gotLow, gotHigh, code, low, high, want)
			}
		}
	}
	met.want(t, impl.OK, 1000)
	met.want(t, impl.ErrLimit, 20)
}

// areNext reports whether no ratio with Q at most most lies between two, of which the first one is less: their parts
// multiplied crosswise are just 1 apart, and what lies between has Q of both together at least.
func areNext(low, high impl.Ratio, most int64) bool {
	return high.P*low.Q-low.P*high.Q == 1 && low.Q+high.Q > most && low.Q <= most && high.Q <= most
}

// nextTo returns the ratio that is next to one within a bound on Q: the greatest one less than it for -1, and the least
// one greater than it for 1. Its parts may be too large.
func nextTo(r impl.Ratio, side, most int64) impl.Ratio {
	for q := most; ; q-- {
		if over := r.P*q + side; over%r.Q == 0 {
			return frac(over/r.Q, q)
		}
	}
}

func TestPromise8FractionsWithLargeBoundsThatAreWithinThem(t *testing.T) {
	d, met := draw(515), tally{}
	for _, r := range someRatios() {
		for _, most := range []int64{100000, 99999, r.Q, r.Q + 1, 2*r.Q - 1, 2 * r.Q, 1 + d.below(100000)} {
			if most < r.Q || most > 100000 {
				continue
			}
			low, high, want := nextTo(r, -1, most), nextTo(r, 1, most), int64(impl.OK)
			if max(low.P, -low.P, high.P, -high.P) > impl.MaxPart {
				low, high, want = impl.Ratio{}, impl.Ratio{}, impl.ErrLimit
			} else if !areNext(low, r, most) || !areNext(r, high, most) {
				t.Fatalf("%v and %v are next to %v", low, high, r)
			}
			gotLow, gotHigh, code := impl.NeighboursOf(r, most)
			met[code]++
			if gotLow != low || gotHigh != high || code != want {
				t.Errorf("NeighboursOf %v and %d: got %v and %v with %d, want %v and %v with %d", r, most, gotLow, gotHigh, code, low, high, want)
			}
			if best, code := impl.BestFraction(r, most); best != r || code != impl.OK {
				t.Errorf("BestFraction %v and %d: got %v with %d", r, most, best, code)
			}
		}
	}
	met.want(t, impl.OK, 1000)
	met.want(t, impl.ErrLimit, 50)
}

func TestPromise8FractionsWithLargeBoundsThatAreBeyondThem(t *testing.T) {
	d, checked := draw(525), 0
	for _, r := range someRatios() {
		for _, most := range []int64{100000, 99999, r.Q - 1, r.Q / 2, r.Q/2 + 1, 1 + d.below(100000)} {
			if most < 1 || most >= r.Q || most > 100000 {
				continue
			}
			x := ratOf(r)
			low, high, code := impl.NeighboursOf(r, most)
			if code != impl.OK || ratOf(low).Cmp(x) >= 0 || ratOf(high).Cmp(x) <= 0 || !areNext(low, high, most) {
				t.Fatalf("NeighboursOf %v and %d: got %v and %v with %d", r, most, low, high, code)
			}
			want := low
			order := minus(x, ratOf(low)).Cmp(minus(ratOf(high), x))
			if order > 0 || order == 0 && high.Q < low.Q {
				want = high
			}
			if best, code := impl.BestFraction(r, most); best != want || code != impl.OK {
				t.Errorf("BestFraction %v and %d: got %v with %d, want %v", r, most, best, code, want)
			}
			checked++
		}
	}
	if checked < 300 {
		t.Errorf("%d ratios were tried only", checked)
	}
}

func TestPromise8PathsAndRatiosAreFoundFromEachOther(t *testing.T) {
	met := tally{}
	for _, r := range someRatios() {
		got, code := impl.PathOf(r)
		met[code]++
		want, wantCode := "", int64(impl.ErrRange)
		if r.P > 0 {
			want, wantCode = pathOf(cfOf(ratOf(r)))
		}
		if got != want || code != wantCode {
			t.Errorf("PathOf %v: got %q with %d, want %q with %d", r, got, code, want, wantCode)
		}
		if code != impl.OK {
			continue
		}
		if back, code := impl.RatioOfPath(got); back != r || code != impl.OK {
			t.Errorf("RatioOfPath %q: got %v with %d, want %v", got, back, code, r)
		}
	}
	met.want(t, impl.OK, 150)
	met.want(t, impl.ErrLimit, 30)
	met.want(t, impl.ErrRange, 150)
}

// somePaths returns paths: all short ones, and long ones.
func somePaths() []string {
	list := []string{""}
	for at := 0; len(list[at]) < 9; at++ {
		list = append(list, list[at]+"L", list[at]+"R")
	}
	for _, length := range []int{20, 44, 45, 46, 199, 200} {
		for _, part := range []string{"L", "R", "LR", "RL", "LLR", "RRL", "LLLLLLLLLLLLLLLLLLLLLLLLLLLLLLLLLLLLLLLLLLLLLLLLLLR"} {
			list = append(list, strings.Repeat(part, length)[:length])
		}
	}
	d := draw(616)
	for range 200 {
		path := ""
		for int64(len(path)) < 10+d.below(100) {
			path += strings.Repeat([]string{"L", "R"}[len(path)%2], int(1+d.below(12)))
		}
		list = append(list, path)
	}
	return list
}

func TestPromise8RatiosAndPathsAreFoundFromEachOther(t *testing.T) {
	met := tally{}
	for _, path := range somePaths() {
		r, code := impl.RatioOfPath(path)
		wantRatio(t, "RatioOfPath "+path, r, code, valueOfPath(path))
		met[code]++
		if code != impl.OK {
			continue
		}
		if back, code := impl.PathOf(r); back != path || code != impl.OK {
			t.Errorf("PathOf %v: got %q with %d, want %q", r, back, code, path)
		}
	}
	met.want(t, impl.OK, 1000)
	met.want(t, impl.ErrLimit, 10)
}

func TestPromise8TermsAreReadFromTheirTexts(t *testing.T) {
	for _, list := range someCfs() {
		text := impl.TermsText(list)
		if text != cfText(list) {
			t.Errorf("TermsText: got %q, want %q", text, cfText(list))
		}
		back, code := impl.ReadTerms(text)
		wantTerms(t, "ReadTerms "+text, back, code, list, impl.OK)
	}
}

// Of all texts of a few bytes just those are read that are the text of something.
func TestPromise8ShortTextsOfTerms(t *testing.T) {
	var texts []string
	for x := int64(-12); x <= 12; x++ {
		texts = append(texts, fmt.Sprint(x))
		for y := int64(2); y <= 12; y++ {
			texts = append(texts, fmt.Sprint(x, ";", y), fmt.Sprint(x, ";1,", y), fmt.Sprint(x, ";2,", y))
		}
	}
	known := map[string]bool{}
	for _, text := range texts {
		known[text] = true
	}
	list, read := []string{""}, 0
	for at := 0; at < len(list); at++ {
		text := list[at]
		got, code := impl.ReadTerms(text)
		if code == impl.OK {
			read++
			if impl.TermsText(got) != text {
				t.Errorf("ReadTerms %q: got %v", text, got)
			}
		}
		if known[text] && code != impl.OK {
			t.Errorf("ReadTerms %q: got %d", text, code)
		}
		if len(text) < 5 {
			for _, c := range "-012;, +" {
				list = append(list, text+string(c))
			}
		}
	}
	if read < 300 {
		t.Errorf("%d texts were read only", read)
	}
}

// The middles of a path are the ratios with the least parts between its bounds.
func TestPromise8PathsLeadToTheLeastParts(t *testing.T) {
	for _, path := range somePaths() {
		r, code := impl.RatioOfPath(path)
		if code != impl.OK || len(path) == 0 {
			continue
		}
		before, _ := impl.RatioOfPath(path[:len(path)-1])
		order := big.NewRat(r.P, r.Q).Cmp(big.NewRat(before.P, before.Q))
		if want := map[byte]int{'L': -1, 'R': 1}[path[len(path)-1]]; order != want {
			t.Errorf("RatioOfPath %q: %v lies on the wrong side of %v", path, r, before)
		}
		if r.P < before.P || r.Q < before.Q {
			t.Errorf("RatioOfPath %q: %v has lesser parts than %v", path, r, before)
		}
	}
}
