package tests

import (
	"fmt"
	"math/big"
	"slices"
	"strings"
	"testing"

	"loop.example/g01242/impl"
)

func pairOf(a, b, c, d int64) impl.Pair { return impl.Pair{A: a, B: b, C: c, D: d} }

// The example of the chapter, as the document tells it.
func TestFractionsExample(t *testing.T) {
	list, code := impl.TermsOf(frac(43, 19))
	wantTerms(t, "TermsOf 43/19", list, code, cf("2;3,1,4"), impl.OK)
	if all, code := impl.ConvergentsOf(list); !slices.Equal(all, []impl.Ratio{frac(2, 1), frac(7, 3), frac(9, 4), frac(43, 19)}) || code != impl.OK {
		t.Errorf("ConvergentsOf 2;3,1,4: got %v with %d", all, code)
	}
	if best, code := impl.BestFraction(frac(43, 19), 5); best != frac(9, 4) || code != impl.OK {
		t.Errorf("BestFraction 43/19 and 5: got %v with %d", best, code)
	}
	if path, code := impl.PathOf(frac(3, 2)); path != "RL" || code != impl.OK {
		t.Errorf("PathOf 3/2: got %q with %d", path, code)
	}
	if first, period, code := impl.RootTerms(7); first != 2 || !slices.Equal(period, cf("1;1,1,4")) || code != impl.OK {
		t.Errorf("RootTerms 7: got %d and %v with %d", first, period, code)
	}
	x, y, code := impl.UnitOf(7)
	wantWide(t, "UnitOf (x) 7", x, code, big.NewInt(8))
	wantWide(t, "UnitOf (y) 7", y, code, big.NewInt(3))
	got, code := impl.PairTerms(pairOf(1, 1, 0, 2), cf("2;3"))
	wantTerms(t, "PairTerms", got, code, cf("1;1,2"), impl.OK)
	got, code = impl.EightTerms(impl.SumEight(), cf("0;2"), cf("0;3"))
	wantTerms(t, "EightTerms", got, code, cf("0;1,5"), impl.OK)
}

func TestFractionsValidTermsByHand(t *testing.T) {
	const term = impl.MaxTerm
	full, longer := ones(impl.MaxTerms), ones(impl.MaxTerms+1)
	for _, list := range [][]int64{{0}, {1}, {-1}, {2}, {term}, {-term}, {0, 2}, {-5, 2}, {0, 1, 2}, {-term, term}, {1, 1, 1, 1, 2}, {3, term, 1, term}, full, slices.Repeat([]int64{term}, impl.MaxTerms)} {
		if !impl.ValidTerms(list) {
			t.Errorf("%s are valid", cfText(list))
		}
	}
	for _, list := range [][]int64{nil, {}, {term + 1}, {-term - 1}, {-1 << 63}, {1<<63 - 1}, {0, 1}, {2, 1}, {-1, 1}, {0, 0}, {5, 0}, {5, -2}, {5, 0, 2}, {5, -1, 2}, {5, 2, 1}, {5, 2, 0}, {5, 2, -2}, {0, term + 1}, {0, 1, term + 1},
		{0, term + 1, 2}, {term + 1, 2}, {-term - 1, 2}, {0, -term - 1, 2}, {0, -1 << 63}, {0, 1<<63 - 1}, longer, slices.Repeat([]int64{2}, impl.MaxTerms+1), slices.Repeat([]int64{1}, impl.MaxTerms)} {
		if impl.ValidTerms(list) {
			t.Errorf("%s are not valid", cfText(list))
		}
		if areTerms(list) {
			t.Errorf("the model takes %s as valid", cfText(list))
		}
	}
}

func TestFractionsTermsByHand(t *testing.T) {
	const most, fib, fib1 = impl.MaxPart, 1836311903, 1134903170
	for _, row := range []struct {
		p, q int64
		text string
	}{
		{0, 1, "0"}, {1, 1, "1"}, {-1, 1, "-1"}, {5, 1, "5"}, {1, 2, "0;2"}, {-1, 2, "-1;2"}, {-1, 3, "-1;1,2"}, {-2, 3, "-1;3"}, {-7, 2, "-4;2"}, {-5, 2, "-3;2"}, {2, 3, "0;1,2"}, {3, 2, "1;2"}, {-43, 19, "-3;1,2,1,4"},
		{1000000000, 1, "1000000000"}, {-1000000000, 1, "-1000000000"}, {1, 1000000000, "0;1000000000"}, {-1, 1000000000, "-1;1,999999999"}, {-1, 1000000001, "-1;1,1000000000"}, {2000000001, 2, "1000000000;2"}, {-1999999999, 2, "-1000000000;2"},
		{most, most - 1, ""}, {999999999, 1000000000, "0;1,999999999"}, {1000000000, 1000000001, "0;1,1000000000"},
		// Ratios whose terms are too large, first or last, or too many.
		{1000000001, 1, ""}, {-1000000001, 1, ""}, {most, 1, ""}, {-most, 1, ""}, {1, 1000000001, ""}, {1, most, ""}, {-1, 1000000002, ""}, {-2000000001, 2, ""}, {1000000001, 1000000002, ""}, {fib, fib1, ""}, {-fib, fib1, ""}, {fib1, fib, ""},
		// MaxTerms terms of 1 but for the last one are those of the forty-second number over the one before it.
		{267914296, 165580141, "1;" + strings.Repeat("1,", 38) + "2"}, {433494437, 267914296, ""}, {102334155, 165580141, "0;1,1,1,1,1,1,1,1,1,1,1,1,1,1,1,1,1,1,1,1,1,1,1,1,1,1,1,1,1,1,1,1,1,1,1,1,1,1,2"},
		{165580141, 267914296, ""},
	} {
		got, code := impl.TermsOf(frac(row.p, row.q))
		want, wantCode := cf(row.text), int64(impl.OK)
		if row.text == "" {
			wantCode = impl.ErrLimit
		}
		wantTerms(t, fmt.Sprint("TermsOf ", row.p, "/", row.q), got, code, want, wantCode)
		if row.text == "" {
			continue
		}
		if r, code := impl.RatioOf(want); r != frac(row.p, row.q) || code != impl.OK {
			t.Errorf("RatioOf %s: got %v with %d, want %d/%d", row.text, r, code, row.p, row.q)
		}
	}
}

func TestFractionsRatiosAtTheLimit(t *testing.T) {
	none := impl.Ratio{}
	for _, row := range []struct {
		text string
		want impl.Ratio
	}{
		// 46340 * 46341 is less than MaxPart, and 46341 * 46341 is greater.
		{"46340;46341", frac(2147441941, 46341)}, {"46341;46340", frac(2147441941, 46340)}, {"46341;46341", none}, {"-46340;46341", frac(-2147441939, 46341)}, {"-46341;46341", none},
		// One part is MaxPart just so, and a little more.
		{"2;1,715827882", frac(2147483648, 715827883)}, {"2;1,715827883", none}, {"0;2,1,715827882", frac(715827883, 2147483648)}, {"0;2,1,715827883", none}, {"-3;715827883", frac(-2147483648, 715827883)}, {"-3;715827884", none},
		{"2;1000000000", frac(2000000001, 1000000000)}, {"3;1000000000", none}, {"0;2,1000000000", frac(1000000000, 2000000001)}, {"0;3,1000000000", none}, {"-2;1000000000", frac(-1999999999, 1000000000)}, {"-3;1000000000", none},
		{"-1;1,1000000000", frac(-1, 1000000001)}, {"-1;2,1000000000", frac(-1000000001, 2000000001)}, {"-1;3,1000000000", none}, {"1000000000;2", frac(2000000001, 2)}, {"1000000000;1,2", none}, {"-1000000000;2", frac(-1999999999, 2)}, {"-1000000000;1,2", none},
		{"1000000000", frac(1000000000, 1)}, {"-1000000000", frac(-1000000000, 1)}, {"1000000000;1000000000,1000000000", none}, {"0;1000000000,1000000000", none}, {"0;1000000000", frac(1, 1000000000)},
	} {
		wantCode := int64(impl.OK)
		if row.want == none {
			wantCode = impl.ErrLimit
		}
		if got, code := impl.RatioOf(cf(row.text)); got != row.want || code != wantCode {
			t.Errorf("RatioOf %s: got %v with %d, want %v with %d", row.text, got, code, row.want, wantCode)
		}
		if got, code := impl.ConvergentsOf(cf(row.text)); code != wantCode || code == impl.OK && got[len(got)-1] != row.want {
			t.Errorf("ConvergentsOf %s: got %v with %d, want %v with %d", row.text, got, code, row.want, wantCode)
		}
	}
}

func TestFractionsConvergentsByHand(t *testing.T) {
	for text, want := range map[string][]impl.Ratio{
		"0":        {frac(0, 1)},
		"-7":       {frac(-7, 1)},
		"0;1,2":    {frac(0, 1), frac(1, 1), frac(2, 3)},
		"-1;1,2":   {frac(-1, 1), frac(0, 1), frac(-1, 3)},
		"3;1,1,2":  {frac(3, 1), frac(4, 1), frac(7, 2), frac(18, 5)},
		"-4;1,6,2": {frac(-4, 1), frac(-3, 1), frac(-22, 7), frac(-47, 15)},
	} {
		if got, code := impl.ConvergentsOf(cf(text)); !slices.Equal(got, want) || code != impl.OK {
			t.Errorf("ConvergentsOf %s: got %v with %d, want %v", text, got, code, want)
		}
	}
}

func TestFractionsComparedByHand(t *testing.T) {
	for _, row := range []struct {
		a, b string
		want int64
	}{
		{"2;3", "2;3", 0}, {"2;3", "2;4", 1}, {"2;3,5", "2;3,6", -1}, {"2;3,5,7", "2;3,5,8", 1}, {"1;9", "2;2", -1}, {"-1;2", "0;2", -1}, {"-3", "-2", -1},
		// The one that ends has an infinite term there: so it is greater at an even index, and less at an odd one.
		{"2", "2;3", -1}, {"2;3", "2;3,4", 1}, {"2;3,4", "2;3,4,2", -1}, {"0", "0;1000000000", -1}, {"-1", "-1;1,2", -1}, {"0;1000000000", "0;1000000000,1000000000", 1}, {"3", "2;2", 1}, {"2;1,2", "3", -1}, {"2;1,2", "2;2", 1},
	} {
		got, code := impl.CompareTerms(cf(row.a), cf(row.b))
		back, other := impl.CompareTerms(cf(row.b), cf(row.a))
		if got != row.want || back != -row.want || code != impl.OK || other != impl.OK {
			t.Errorf("CompareTerms %s and %s: got %d and %d with %d and %d, want %d", row.a, row.b, got, back, code, other, row.want)
		}
	}
}

func TestFractionsBestByHand(t *testing.T) {
	const most = impl.MaxPart
	for _, row := range []struct {
		r    impl.Ratio
		most int64
		want impl.Ratio
	}{
		{frac(43, 19), 19, frac(43, 19)}, {frac(43, 19), 18, frac(34, 15)}, {frac(43, 19), 100000, frac(43, 19)}, {frac(43, 19), 1, frac(2, 1)}, {frac(43, 19), 3, frac(7, 3)}, {frac(43, 19), 4, frac(9, 4)},
		{frac(1, 100000), 100000, frac(1, 100000)}, {frac(1, 100001), 100000, frac(1, 100000)}, {frac(1, 200000), 100000, frac(0, 1)}, {frac(1, 199999), 100000, frac(1, 100000)}, {frac(-1, 200000), 100000, frac(0, 1)}, {frac(-1, 199999), 100000, frac(-1, 100000)}, {frac(-1, 200001), 100000, frac(0, 1)},
		// Of two that are as near the one with the least Q, and then with the least P.
		{frac(1, 2), 1, frac(0, 1)}, {frac(-1, 2), 1, frac(-1, 1)}, {frac(7, 2), 1, frac(3, 1)}, {frac(-7, 2), 1, frac(-4, 1)}, {frac(1, 4), 2, frac(0, 1)}, {frac(3, 4), 2, frac(1, 1)}, {frac(-1, 4), 2, frac(0, 1)}, {frac(-3, 4), 2, frac(-1, 1)}, {frac(5, 12), 3, frac(1, 2)}, {frac(7, 12), 3, frac(1, 2)}, {frac(-5, 12), 3, frac(-1, 2)},
		{frac(1, 6), 3, frac(0, 1)}, {frac(11, 6), 3, frac(2, 1)}, {frac(most, 1), 1, frac(most, 1)}, {frac(-most, 1), 100000, frac(-most, 1)}, {frac(most-1, 2), 1, frac(1073741823, 1)}, {frac(1-most, 2), 1, frac(-1073741824, 1)}, {frac(most, most-1), 100000, frac(1, 1)}, {frac(1, most), 100000, frac(0, 1)}, {frac(most, 3), 1, frac(715827883, 1)}, {frac(most, 3), 2, frac(1431655765, 2)},
		{frac(62831853, 20000000), 100, frac(311, 99)}, {frac(62831853, 20000000), 113, frac(355, 113)}, {frac(62831853, 20000000), 7, frac(22, 7)}, {frac(62831853, 20000000), 56, frac(22, 7)}, {frac(62831853, 20000000), 57, frac(179, 57)},
	} {
		if got, code := impl.BestFraction(row.r, row.most); got != row.want || code != impl.OK {
			t.Errorf("BestFraction %v and %d: got %v with %d, want %v", row.r, row.most, got, code, row.want)
		}
	}
}

func TestFractionsNeighboursByHand(t *testing.T) {
	const most = impl.MaxPart
	none := impl.Ratio{}
	for _, row := range []struct {
		r         impl.Ratio
		most      int64
		low, high impl.Ratio
	}{
		{frac(1, 2), 1, frac(0, 1), frac(1, 1)}, {frac(1, 2), 2, frac(0, 1), frac(1, 1)}, {frac(1, 2), 3, frac(1, 3), frac(2, 3)}, {frac(1, 2), 5, frac(2, 5), frac(3, 5)}, {frac(-1, 2), 5, frac(-3, 5), frac(-2, 5)}, {frac(0, 1), 1, frac(-1, 1), frac(1, 1)}, {frac(0, 1), 100000, frac(-1, 100000), frac(1, 100000)},
		{frac(5, 1), 1, frac(4, 1), frac(6, 1)}, {frac(5, 1), 2, frac(9, 2), frac(11, 2)}, {frac(-5, 1), 2, frac(-11, 2), frac(-9, 2)}, {frac(43, 19), 5, frac(9, 4), frac(7, 3)}, {frac(-43, 19), 5, frac(-7, 3), frac(-9, 4)}, {frac(1, most), 100000, frac(0, 1), frac(1, 100000)}, {frac(-1, most), 100000, frac(-1, 100000), frac(0, 1)},
		{frac(most-1, most), 7, frac(6, 7), frac(1, 1)}, {frac(most-1, 1), 1, frac(most-2, 1), frac(most, 1)}, {frac(1-most, 1), 1, frac(-most, 1), frac(2-most, 1)},
		// What lies beside them has parts that are too large, on one side or on both.
		{frac(most, 1), 1, none, none}, {frac(-most, 1), 1, none, none}, {frac(most-1, 1), 2, none, none}, {frac(most/2, 1), 2, none, none}, {frac(1-most/2, 1), 2, frac(1-most, 2), frac(3-most, 2)}, {frac(most/2-1, 1), 2, frac(most-3, 2), frac(most-1, 2)}, {frac(-most/2, 1), 2, none, none}, {frac(most, 3), 4, none, none}, {frac(most, 3), 3, frac(1431655765, 2), frac(715827883, 1)},
		{frac(most, 3), 2, frac(1431655765, 2), frac(715827883, 1)}, {frac(21475, 1), 100000, none, none}, {frac(21474, 1), 100000, frac(2147399999, 100000), frac(2147400001, 100000)}, {frac(-21475, 1), 100000, none, none}, {frac(-21474, 1), 100000, frac(-2147400001, 100000), frac(-2147399999, 100000)},
	} {
		wantCode := int64(impl.OK)
		if row.low == none {
			wantCode = impl.ErrLimit
		}
		if low, high, code := impl.NeighboursOf(row.r, row.most); low != row.low || high != row.high || code != wantCode {
			t.Errorf("NeighboursOf %v and %d: got %v and %v with %d, want %v and %v with %d", row.r, row.most, low, high, code, row.low, row.high, wantCode)
		}
	}
}

func TestFractionsPathsByHand(t *testing.T) {
	const fib, fib1 = 1836311903, 1134903170
	for _, row := range []struct {
		path string
		p, q int64
	}{
		{"", 1, 1}, {"L", 1, 2}, {"R", 2, 1}, {"LL", 1, 3}, {"LR", 2, 3}, {"RL", 3, 2}, {"RR", 3, 1}, {"RRLLRL", 19, 8}, {"RRLRRR", 14, 5}, {"LRL", 3, 5}, {"RLR", 5, 3},
		{strings.Repeat("R", 200), 201, 1}, {strings.Repeat("L", 200), 1, 201}, {strings.Repeat("R", 199) + "L", 399, 2}, {strings.Repeat("L", 199) + "R", 2, 399}, {strings.Repeat("RL", 22), fib, fib1}, {strings.Repeat("LR", 22), fib1, fib}, {strings.Repeat("RL", 21) + "R", fib1, fib - fib1},
	} {
		if got, code := impl.RatioOfPath(row.path); got != frac(row.p, row.q) || code != impl.OK {
			t.Errorf("RatioOfPath %q: got %v with %d, want %d/%d", row.path, got, code, row.p, row.q)
		}
		if got, code := impl.PathOf(frac(row.p, row.q)); got != row.path || code != impl.OK {
			t.Errorf("PathOf %d/%d: got %q with %d, want %q", row.p, row.q, got, code, row.path)
		}
	}
	for _, r := range []impl.Ratio{frac(202, 1), frac(1, 202), frac(403, 2), frac(2, 403), frac(impl.MaxPart, 1), frac(1, impl.MaxPart), frac(impl.MaxPart, impl.MaxPart-1), frac(impl.MaxPart-1, impl.MaxPart)} {
		if got, code := impl.PathOf(r); got != "" || code != impl.ErrLimit {
			t.Errorf("PathOf %v: got %q with %d", r, got, code)
		}
	}
	for _, r := range []impl.Ratio{frac(0, 1), frac(-1, 1), frac(-1, 2), frac(-impl.MaxPart, 1), frac(-1, impl.MaxPart), frac(-202, 1)} {
		if got, code := impl.PathOf(r); got != "" || code != impl.ErrRange {
			t.Errorf("PathOf %v: got %q with %d", r, got, code)
		}
	}
}

func TestFractionsPathsOfNoRatio(t *testing.T) {
	rights := strings.Repeat("R", 200)
	for path, want := range map[string]int64{
		// How long a path is comes ahead of its bytes, and these ahead of how large the ratio is.
		rights + "R": impl.ErrLimit, rights + "x": impl.ErrLimit, strings.Repeat("x", 201): impl.ErrLimit, strings.Repeat("RL", 100): impl.ErrLimit, strings.Repeat("LR", 100): impl.ErrLimit, strings.Repeat("RL", 23): impl.ErrLimit, strings.Repeat("RL", 22) + "R": impl.ErrLimit,
		strings.Repeat("RL", 99) + "x": impl.ErrSyntax, "x" + strings.Repeat("RL", 99): impl.ErrSyntax, strings.Repeat("RL", 50) + "l" + strings.Repeat("RL", 49): impl.ErrSyntax, rights[:199] + "x": impl.ErrSyntax,
		// The parts of this ratio have more than 64 bits, of which the lowest ones are those of a ratio that would be valid.
		"RLLRRLLRLRRRLRLRRLLLRLRRRLLLRLRRRLLLRLRLRLRRLLRRLLRLLRRLLRLLRLLLRLRRRRLLRLLRRRLLLLLLRLRLRLRLRLRLRRRLLLLLLLLLLLRLLRRRRRRRLLRLRRRLLLRLRRRRRRRRRRRRRRLRLRRRRLRRLRRRRLRRLLRLRRLRLRLRLLLLLRLRRLLR": impl.ErrLimit,
		"l": impl.ErrSyntax, "r": impl.ErrSyntax, " ": impl.ErrSyntax, "R ": impl.ErrSyntax, " R": impl.ErrSyntax, "R\n": impl.ErrSyntax, "RxL": impl.ErrSyntax, "LL0RR": impl.ErrSyntax, "\x00": impl.ErrSyntax, "\xff": impl.ErrSyntax, "R\xc3\xa9L": impl.ErrSyntax, "K": impl.ErrSyntax, "M": impl.ErrSyntax, "Q": impl.ErrSyntax, "S": impl.ErrSyntax,
	} {
		if got, code := impl.RatioOfPath(path); got != (impl.Ratio{}) || code != want {
			t.Errorf("RatioOfPath %q: got %v with %d, want %d", path, got, code, want)
		}
	}
}

func TestFractionsRootsByHand(t *testing.T) {
	for n, text := range map[int64]string{
		0: "0", 1: "1", 4: "2", 9: "3", 999 * 999: "999", impl.MaxRootOf: "1000", 2: "1;2", 3: "1;1,2", 5: "2;4", 6: "2;2,4", 7: "2;1,1,1,4", 8: "2;1,4", 10: "3;6", 13: "3;1,1,1,1,6", 14: "3;1,2,1,6", 19: "4;2,1,3,1,2,8", 61: "7;1,4,3,1,2,2,1,3,4,1,14",
		999999: "999;1,1998", 998002: "999;1998", 999*999 + 2: "999;999,1998",
	} {
		want := cf(text)
		first, period, code := impl.RootTerms(n)
		if first != want[0] || !slices.Equal(period, want[1:]) || code != impl.OK {
			t.Errorf("RootTerms %d: got %d and %v with %d, want %s", n, first, period, code, text)
		}
	}
	for _, row := range []struct{ n, k, want, code int64 }{
		{0, 0, 0, impl.OK}, {1, 0, 1, impl.OK}, {9, 0, 3, impl.OK}, {0, 1, 0, impl.ErrNotFound}, {1, 1000000000, 0, impl.ErrNotFound}, {9, 1, 0, impl.ErrNotFound}, {2, 0, 1, impl.OK}, {2, 1000000000, 2, impl.OK},
		{7, 0, 2, impl.OK}, {7, 1, 1, impl.OK}, {7, 3, 1, impl.OK}, {7, 4, 4, impl.OK}, {7, 5, 1, impl.OK}, {7, 8, 4, impl.OK}, {7, 1000000000, 4, impl.OK}, {7, 999999999, 1, impl.OK}, {3, 1000000000, 2, impl.OK}, {3, 999999999, 1, impl.OK}, {19, 9, 3, impl.OK},
	} {
		if got, code := impl.RootTermAt(row.n, row.k); got != row.want || code != row.code {
			t.Errorf("RootTermAt %d and %d: got %d with %d, want %d with %d", row.n, row.k, got, code, row.want, row.code)
		}
	}
}

func TestFractionsRootConvergentsByHand(t *testing.T) {
	for _, row := range []struct{ n, k, x, y, code int64 }{
		{0, 0, 0, 1, impl.OK}, {1, 0, 1, 1, impl.OK}, {4, 0, 2, 1, impl.OK}, {impl.MaxRootOf, 0, 1000, 1, impl.OK}, {0, 1, 0, 0, impl.ErrNotFound}, {4, 1000, 0, 0, impl.ErrNotFound},
		{2, 0, 1, 1, impl.OK}, {2, 1, 3, 2, impl.OK}, {2, 4, 41, 29, impl.OK}, {3, 1, 2, 1, impl.OK}, {7, 3, 8, 3, impl.OK}, {7, 4, 37, 14, impl.OK}, {2, 1000, 0, 0, impl.ErrLimit}, {969406, 1000, 0, 0, impl.ErrLimit},
	} {
		x, y, code := impl.RootConvergent(row.n, row.k)
		if x != impl.WideOf(row.x) || y != impl.WideOf(row.y) || code != row.code {
			t.Errorf("RootConvergent %d and %d: got %v and %v with %d, want %d and %d with %d", row.n, row.k, bigOf(x), bigOf(y), code, row.x, row.y, row.code)
		}
	}
	for n, want := range map[int64][2]string{2: {"3", "2"}, 3: {"2", "1"}, 5: {"9", "4"}, 6: {"5", "2"}, 7: {"8", "3"}, 8: {"3", "1"}, 13: {"649", "180"}, 61: {"1766319049", "226153980"}, 109: {"158070671986249", "15140424455100"}, 999999: {"1000", "1"}, 998002: {"1996003", "1998"}, 991: {"379516400906811930638014896080", "12055735790331359447442538767"}} {
		x, y, code := impl.UnitOf(n)
		if x != wide(t, want[0]) || y != wide(t, want[1]) || code != impl.OK {
			t.Errorf("UnitOf %d: got %v and %v with %d, want %v", n, bigOf(x), bigOf(y), code, want)
		}
	}
	for n, want := range map[int64]int64{0: impl.ErrState, 1: impl.ErrState, 4: impl.ErrState, impl.MaxRootOf: impl.ErrState, 969406: impl.ErrLimit, 909451: impl.ErrLimit} {
		if x, y, code := impl.UnitOf(n); x != (impl.Wide{}) || y != (impl.Wide{}) || code != want {
			t.Errorf("UnitOf %d: got %v and %v with %d, want %d", n, bigOf(x), bigOf(y), code, want)
		}
	}
}

func TestFractionsPairMovesByHand(t *testing.T) {
	for _, row := range []struct {
		m       impl.Pair
		x, want string
	}{
		{pairOf(1, 0, 0, 1), "2", "x2 x0 g2"}, {pairOf(1, 0, 0, 1), "0", "x0 x0 g0"}, {pairOf(1, 0, 0, 1), "-3", "x-3 x0 g-3"}, {pairOf(1, 0, 0, 1), "1;2", "x1 x2 g1 x0 g2"}, {pairOf(-1, 0, 0, -1), "2", "x2 x0 g2"}, {pairOf(-1, 0, 0, 1), "1;2", "x1 x2 g-2 x0 g2"},
		{pairOf(1, 1, 0, 2), "2;3", "x2 x3 g1 g1 x0 g2"}, {pairOf(2, 0, 0, 1), "0;2", "x0 x2 x0 g1"}, {pairOf(0, 1, 1, 0), "0;2", "x0 x2 x0 g2"}, {pairOf(0, 1, 1, 0), "5", "x5 g0 x0 g5"},
		// It could give 0, and 2 behind it, at once; but not before it has taken the first term, which may be another number.
		{pairOf(1, 0, 2, 1), "5", "x5 g0 g2 x0 g5"}, {pairOf(1, 0, 2, 1), "-3;2", "x-3 g0 g1 x2 g1 g1 x0 g2"}, {pairOf(7, 0, 3, 0), "5;2", "x5 g2 g3 x2 x0"}, {pairOf(-7, 0, 3, 0), "5", "x5 g-3 g1 g2 x0"}, {pairOf(0, 7, 0, -3), "9", "x9 g-3 g1 g2 x0"},
		// What it divides by may become 0 on the way, and not be 0 at the end.
		{pairOf(1, 0, 1, -2), "2;3", "x2 x3 x0 g7"}, {pairOf(1, 0, 1, -1), "1;3", "x1 x3 x0 g4"},
		// Both below the line are less than 0; or one of them is not, so that it waits.
		{pairOf(1, 0, -1, 0), "4", "x4 g-1 x0"}, {pairOf(3, 1, -1, 1), "4", "x4 x0 g-5 g1 g2"},
	} {
		got, code := impl.PairMoves(row.m, cf(row.x))
		if movesText(got) != row.want || code != impl.OK {
			t.Errorf("PairMoves %v of %s: got %q with %d, want %q", row.m, row.x, movesText(got), code, row.want)
		}
	}
}

func TestFractionsEightMovesByHand(t *testing.T) {
	sum, product := impl.SumEight(), impl.ProductEight()
	for _, row := range []struct {
		e          impl.Eight
		x, y, want string
	}{
		{sum, "2", "3", "x2 y3 x0 y0 g5"}, {product, "2", "3", "x2 y3 x0 y0 g6"}, {sum, "0;2", "0;3", "x0 y0 x2 y3 g0 g1 x0 y0 g5"}, {product, "1;2", "1;2", "x1 y1 x2 y2 x0 g2 y0 g4"},
		// One of both ends before the other one, which is taken alone then.
		{sum, "1;2,3", "4", "x1 y4 x2 y0 g5 x3 g2 x0 g3"}, {sum, "4", "1;2,3", "x4 y1 x0 y2 g5 y3 g2 y0 g3"}, {product, "1;2,3", "4", "x1 y4 x2 y0 x3 g5 g1 x0 g2 g2"}, {product, "4", "1;2,3", "x4 y1 x0 y2 y3 g5 g1 y0 g2 g2"},
		// It could give 7 behind the first term of x: but not before it has taken one of both. What it gives changes no turn.
		{impl.Eight{Top: [4]int64{7, 7, 7, 7}, Low: [4]int64{1, 1, 1, 1}}, "1;2", "1;2", "x1 y1 g7 x2 y2 x0 y0"}, {impl.Eight{Top: [4]int64{0, 1, 0, 0}, Low: [4]int64{0, 0, 0, 1}}, "3", "5", "x3 y5 x0 g3 y0"}, {impl.Eight{Top: [4]int64{0, 0, 1, 0}, Low: [4]int64{0, 0, 0, 1}}, "3", "5", "x3 y5 x0 y0 g5"},
		{impl.Eight{Top: [4]int64{0, 0, 1, 0}, Low: [4]int64{0, 0, 0, 1}}, "3;2,2,2", "5;2", "x3 y5 x2 y2 g5 x2 y0 g2 x2 x0"},
		{impl.Eight{Top: [4]int64{0, 1, 0, 0}, Low: [4]int64{0, 0, 0, -1}}, "3;2", "5", "x3 y5 x2 g-4 y0 x0 g2"},
	} {
		got, code := impl.EightMoves(row.e, cf(row.x), cf(row.y))
		if movesText(got) != row.want || code != impl.OK {
			t.Errorf("EightMoves %v of %s and %s: got %q with %d, want %q", row.e, row.x, row.y, movesText(got), code, row.want)
		}
	}
}

func TestFractionsPairsAtTheLimit(t *testing.T) {
	const term = impl.MaxTerm
	full := cfText(slices.Repeat([]int64{2}, impl.MaxTerms))
	for _, row := range []struct {
		m       impl.Pair
		x, want string
		code    int64
	}{
		// Numbers of MaxTerm in size are taken; the terms that are given may be as large as well, and not larger.
		{pairOf(term, 0, term, 0), "1000000", "1", impl.OK}, {pairOf(-term, 0, -term, 0), "1000000", "1", impl.OK}, {pairOf(-term, 0, term, 0), "1000000", "-1", impl.OK}, {pairOf(1, 0, 0, 1), "1000000000", "1000000000", impl.OK}, {pairOf(-1, 0, 0, 1), "1000000000", "-1000000000", impl.OK},
		{pairOf(1, 1, 0, 1), "1000000000", "", impl.ErrLimit}, {pairOf(-1, -1, 0, 1), "1000000000", "", impl.ErrLimit}, {pairOf(1, 1, 0, 1), "999999999", "1000000000", impl.OK}, {pairOf(0, 1, 1, 0), "1000000000", "0;1000000000", impl.OK}, {pairOf(0, 1, 2, 0), "1000000000", "", impl.ErrLimit}, {pairOf(0, 1, 2, 0), "500000000", "0;1000000000", impl.OK}, {pairOf(term, 0, 0, 1), "2", "", impl.ErrLimit},
		// A number on the way is MaxCell in size just so, and then by 1 more: above the line, below it, and less than 0.
		{pairOf(term, -1, term, 0), "1000000", "", impl.ErrLimit}, {pairOf(term, 0, term, -1), "1000000", "", impl.ErrLimit}, {pairOf(term, 0, term, 1), "1000000", "", impl.ErrLimit}, {pairOf(term, 1, term, 1), "1000000", "", impl.ErrLimit}, {pairOf(term, -1, term, -1), "1000000", "1", impl.OK}, {pairOf(-term, -1, -term, -1), "1000000", "", impl.ErrLimit},
		{pairOf(-term, 1, -term, 1), "1000000", "1", impl.OK}, {pairOf(term, 0, term, 0), "1000001", "", impl.ErrLimit}, {pairOf(term, 0, term, 0), "-1000000", "1", impl.OK}, {pairOf(term, 0, term, 0), "-1000001", "", impl.ErrLimit}, {pairOf(term, term, term, term), "999999", "1", impl.OK}, {pairOf(term, term, term, term), "1000000", "", impl.ErrLimit},
		{pairOf(term, 0, 0, 1), "1000000000", "", impl.ErrLimit}, {pairOf(0, 1, term, 0), "1000000000", "", impl.ErrLimit}, {pairOf(0, 1, term, 0), "1000001", "", impl.ErrLimit},
		// A product of more than MaxCell may be part of a number that is less; one of 64 bits and more may look like 0, and is not.
		{pairOf(-term, 0, 600000000, 0), "1000000", "-2;3", impl.OK}, {pairOf(term, 0, -600000000, 0), "1000000", "-2;3", impl.OK}, {pairOf(1<<22, 0, 0, 0), "4194304;1048576", "", impl.ErrLimit}, {pairOf(0, 0, 1<<22, 0), "4194304;1048576", "", impl.ErrLimit}, {pairOf(1<<22, 0, 0, 0), "4194304;2", "", impl.ErrState},
		// ErrLimit comes ahead of ErrState: it gives nothing, but its numbers are small, or not.
		{pairOf(1, 0, 0, 0), "10;10", "", impl.ErrState}, {pairOf(1, 0, 0, 0), "1000000000;1000000", "", impl.ErrLimit}, {pairOf(1, 0, 0, 0), "1000000000;999999", "", impl.ErrState}, {pairOf(-1, 0, 0, 0), "1000000000;1000000", "", impl.ErrLimit}, {pairOf(-1, 0, 0, 0), "-1000000000;999999", "", impl.ErrState}, {pairOf(1, 0, 0, 0), "1000000000;1000000000,1000000000", "", impl.ErrLimit},
		{pairOf(0, 0, 0, 0), "1000000000;1000000000", "", impl.ErrState}, {pairOf(5, 5, 0, 0), "3", "", impl.ErrState}, {pairOf(0, 1, 0, 0), full, "", impl.ErrState}, {pairOf(1, 0, 0, 0), full, "", impl.ErrLimit}, {pairOf(1, 0, 0, 0), cfText(ones(impl.MaxTerms)), "", impl.ErrState},
		// It divides by 0 at the end.
		{pairOf(0, 1, 1, -2), "2", "", impl.ErrState}, {pairOf(1, -2, 1, -2), "2", "", impl.ErrState}, {pairOf(1, 0, 3, -7), "2;3", "", impl.ErrState}, {pairOf(0, 1, 1, 0), "0", "", impl.ErrState}, {pairOf(2, 0, 1, 0), "0", "", impl.ErrState}, {pairOf(0, 5, 2, 1), "-1;2", "", impl.ErrState},
		// Behind what it has given all terms are taken still, and its numbers may become too large even so.
		{pairOf(0, 7, 0, 1), "10;10", "7", impl.OK}, {pairOf(0, 7, 0, 1), "1000000000;1000000000,2", "7", impl.OK}, {pairOf(0, 7, 0, 1), "5;1000000000,999999", "7", impl.OK}, {pairOf(0, 7, 0, 1), "5;1000000000,1000000", "", impl.ErrLimit}, {pairOf(0, 7, 0, 1), "5;1000000000,1000000000,2", "", impl.ErrLimit},
		// MaxTerms terms are given, but not one more.
		{pairOf(1, 0, 0, 1), full, full, impl.OK}, {pairOf(0, 1, 1, 0), full, "", impl.ErrLimit}, {pairOf(0, 1, 1, 0), cfText(append([]int64{0}, slices.Repeat([]int64{2}, 39)...)), cfText(slices.Repeat([]int64{2}, 39)), impl.OK}, {pairOf(0, 1, 1, 0), cfText(slices.Repeat([]int64{2}, 39)), cfText(append([]int64{0}, slices.Repeat([]int64{2}, 39)...)), impl.OK},
		// Numbers of more than MaxTerm in size.
		{pairOf(term+1, 0, 0, 1), "2", "", impl.ErrRange}, {pairOf(0, -term-1, 0, 1), "2", "", impl.ErrRange}, {pairOf(0, 0, term+1, 1), "2", "", impl.ErrRange}, {pairOf(0, 0, 0, -term-1), "2", "", impl.ErrRange}, {pairOf(-1<<63, 0, 0, 1), "2", "", impl.ErrRange}, {pairOf(0, 0, 0, 1<<63-1), "2", "", impl.ErrRange},
	} {
		got, code := impl.PairTerms(row.m, cf(row.x))
		wantTerms(t, fmt.Sprint("PairTerms ", pairRun{row.m, cf(row.x)}), got, code, cf(row.want), row.code)
		moves, code := impl.PairMoves(row.m, cf(row.x))
		if code != row.code || !slices.Equal(givenOf(moves), cf(row.want)) {
			t.Errorf("PairMoves %v of %s: got %q with %d, want %s with %d", row.m, row.x, movesText(moves), code, row.want, row.code)
		}
	}
}

func TestFractionsEightsAtTheLimit(t *testing.T) {
	const term, cell = impl.MaxTerm, impl.MaxCell
	sum, product := impl.SumEight(), impl.ProductEight()
	full := cfText(slices.Repeat([]int64{2}, impl.MaxTerms))
	eight := func(top, low [4]int64) impl.Eight { return impl.Eight{Top: top, Low: low} }
	for _, row := range []struct {
		e          impl.Eight
		x, y, want string
		code       int64
	}{
		{sum, "500000000", "500000000", "1000000000", impl.OK}, {sum, "500000000", "500000001", "", impl.ErrLimit}, {sum, "-1000000000", "0", "-1000000000", impl.OK}, {sum, "-1000000000", "-1", "", impl.ErrLimit}, {sum, "-1000000000", "1000000000", "0", impl.OK}, {product, "-31622", "31622", "-999950884", impl.OK}, {product, "31623", "31623", "", impl.ErrLimit},
		{sum, "-1;2", "0;2", "0", impl.OK}, {product, "0", "1000000000", "0", impl.OK}, {product, "1000000000", "0;1000000000", "1", impl.OK}, {product, "0;1000000000", "1000000000", "1", impl.OK}, {sum, full, "0", full, impl.OK}, {sum, "0", full, full, impl.OK}, {product, full, "1", full, impl.OK},
		// The four numbers of x * y, x, y and 1, each MaxCell in size just so, and more.
		{eight([4]int64{term, 0, 0, 0}, [4]int64{term, 0, 0, 0}), "1000", "1000", "1", impl.OK}, {eight([4]int64{term, 0, 0, 0}, [4]int64{term, 0, 0, 0}), "1000", "1001", "", impl.ErrLimit}, {eight([4]int64{term, 0, 0, 0}, [4]int64{term, 0, 0, 0}), "1000000", "1", "1", impl.OK}, {eight([4]int64{term, 0, 0, 0}, [4]int64{term, 0, 0, 0}), "1000001", "1", "", impl.ErrLimit}, {eight([4]int64{term, 0, 0, 0}, [4]int64{term, 0, 0, 0}), "1", "1000001", "", impl.ErrLimit},
		{eight([4]int64{0, term, 0, 0}, [4]int64{0, term, 0, 0}), "1000000", "0", "1", impl.OK}, {eight([4]int64{0, term, 0, 0}, [4]int64{0, term, 0, 0}), "1000001", "0", "", impl.ErrLimit}, {eight([4]int64{0, 0, term, 0}, [4]int64{0, 0, term, 0}), "0", "1000000", "1", impl.OK}, {eight([4]int64{0, 0, term, 0}, [4]int64{0, 0, term, 0}), "0", "-1000001", "", impl.ErrLimit},
		// It gives nothing; or its numbers become too large before.
		{eight([4]int64{1, 0, 0, 0}, [4]int64{}), "2", "2", "", impl.ErrState}, {eight([4]int64{1, 0, 0, 0}, [4]int64{}), "1000000000", "1000000", "", impl.ErrState}, {eight([4]int64{1, 0, 0, 0}, [4]int64{}), "1000000000", "1000001", "", impl.ErrLimit}, {eight([4]int64{}, [4]int64{1, 0, 0, 0}), "1000000000", "1000001", "", impl.ErrLimit}, {eight([4]int64{}, [4]int64{}), full, full, "", impl.ErrState},
		{eight([4]int64{0, 1, 0, 0}, [4]int64{0, 0, 1, 0}), "5", "0", "", impl.ErrState}, {eight([4]int64{0, 0, 0, 1}, [4]int64{0, 1, -1, 0}), "1;2", "1;2", "", impl.ErrState}, {eight([4]int64{0, 0, 0, 0}, [4]int64{0, 0, 0, 1}), "1;2", "1;2", "0", impl.OK},
		// Each of the eight numbers may be MaxTerm in size, and no more.
		{eight([4]int64{term, -term, term, -term}, [4]int64{-term, term, -term, term}), "1;2", "3", "-1", impl.OK}, {eight([4]int64{term + 1}, [4]int64{0, 0, 0, 1}), "2", "2", "", impl.ErrRange}, {eight([4]int64{0, -term - 1}, [4]int64{0, 0, 0, 1}), "2", "2", "", impl.ErrRange}, {eight([4]int64{0, 0, term + 1}, [4]int64{0, 0, 0, 1}), "2", "2", "", impl.ErrRange}, {eight([4]int64{0, 0, 0, -1 << 63}, [4]int64{0, 0, 0, 1}), "2", "2", "", impl.ErrRange},
		{eight([4]int64{}, [4]int64{-term - 1}), "2", "2", "", impl.ErrRange}, {eight([4]int64{}, [4]int64{0, term + 1}), "2", "2", "", impl.ErrRange}, {eight([4]int64{}, [4]int64{0, 0, 1<<63 - 1}), "2", "2", "", impl.ErrRange}, {eight([4]int64{}, [4]int64{0, 0, 0, cell}), "2", "2", "", impl.ErrRange},
	} {
		got, code := impl.EightTerms(row.e, cf(row.x), cf(row.y))
		wantTerms(t, fmt.Sprint("EightTerms ", eightRun{row.e, cf(row.x), cf(row.y)}), got, code, cf(row.want), row.code)
		moves, code := impl.EightMoves(row.e, cf(row.x), cf(row.y))
		if code != row.code || !slices.Equal(givenOf(moves), cf(row.want)) {
			t.Errorf("EightMoves %v of %s and %s: got %q with %d, want %s with %d", row.e, row.x, row.y, movesText(moves), code, row.want, row.code)
		}
	}
	if sum != eight([4]int64{0, 1, 1, 0}, [4]int64{0, 0, 0, 1}) || product != eight([4]int64{1, 0, 0, 0}, [4]int64{0, 0, 0, 1}) {
		t.Errorf("the machines are %v and %v", sum, product)
	}
}

func TestFractionsTextsByHand(t *testing.T) {
	for text, want := range map[string][]int64{"0": {0}, "-1": {-1}, "7": {7}, "1000000000": {1000000000}, "-1000000000": {-1000000000}, "2;3": {2, 3}, "-3;2": {-3, 2}, "2;3,1,4": {2, 3, 1, 4}, "0;1,1000000000": {0, 1, 1000000000}} {
		got, code := impl.ReadTerms(text)
		wantTerms(t, "ReadTerms "+text, got, code, want, impl.OK)
		if got := impl.TermsText(want); got != text {
			t.Errorf("TermsText of %v: got %q, want %q", want, got, text)
		}
	}
	full, longer := cfText(ones(impl.MaxTerms)), cfText(ones(impl.MaxTerms+1))
	got, code := impl.ReadTerms(full)
	wantTerms(t, "ReadTerms of MaxTerms terms", got, code, ones(impl.MaxTerms), impl.OK)
	for _, text := range []string{"", ";", ",", "-", "+1", "-0", "00", "01", "-01", "0x1", "1_0", "1.5", "1e3", "a", " 1", "1 ", "1\n", "\x00", "\xff", "\xd9\xa1", "2;", ";2", "2;3;4", "2,3", "2;3,", "2;,3", "2;3,,4", "2;,", "2; 3", "2;3, 4", "2;+3", "2;03", "2;3,04", "2;3\n", "--1", "1-",
		"2;1", "2;3,1", "2;0", "2;-3", "2;0,3", "2;-1,3", "-1;-2", "1000000001", "-1000000001", "2;1000000001", "2;1000000001,2", "9223372036854775807", "9223372036854775808", "-9223372036854775808", "99999999999999999999", "18446744073709551617", "2;18446744073709551619", longer, full + ",2", full + ";2"} {
		if got, code := impl.ReadTerms(text); len(got) > 0 || code != impl.ErrSyntax {
			t.Errorf("ReadTerms %q: got %v with %d", text, got, code)
		}
	}
}
