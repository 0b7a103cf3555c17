package tests

import (
	"fmt"
	"slices"
	"strings"
	"testing"

	"loop.example/g01242/impl"
)

// The example of the chapter, as the document tells it.
func TestStreamsExample(t *testing.T) {
	s, code := impl.ReadStream("+0:-")
	wantStream(t, "ReadStream", s, code, stream("+0:-"), impl.OK)
	if value, code := impl.ValueOf(s); value != frac(1, 4) || code != impl.OK {
		t.Errorf("ValueOf: got %v with %d", value, code)
	}
	third, code := impl.StreamOf(frac(1, 3))
	wantStream(t, "StreamOf 1/3", third, code, stream(":0+"), impl.OK)
	average, code := impl.AverageOf(stream(":+"), stream(":0"))
	wantStream(t, "AverageOf :+ and :0", average, code, stream("+:0"), impl.OK)
	if value, code := impl.ValueOf(average); value != frac(1, 2) || code != impl.OK {
		t.Errorf("ValueOf the average: got %v with %d", value, code)
	}
	normal, code := impl.NormalStream(stream("0+0:+0+0"))
	wantStream(t, "NormalStream of 0+0:+0+0", normal, code, stream(":0+"), impl.OK)
	digits, taken, code := impl.MoebiusDigits(machine(1, 1, 0, 2), stream(":0"), 3)
	if textOf(digits) != "+00" || taken != 2 || code != impl.OK {
		t.Errorf("MoebiusDigits: got %v and %d with %d", digits, taken, code)
	}
	if low, high, code := impl.BoundsOf([]int8{1, 0}); low != frac(1, 4) || high != frac(3, 4) || code != impl.OK {
		t.Errorf("BoundsOf: got %v and %v with %d", low, high, code)
	}
}

func TestStreamsOfRatiosByHand(t *testing.T) {
	for _, row := range []struct {
		p, q int64
		text string
		code int64
	}{
		{0, 1, ":0", impl.OK}, {1, 1, ":+", impl.OK}, {-1, 1, ":-", impl.OK},
		{1, 2, "+:0", impl.OK}, {-1, 2, "-:0", impl.OK}, {1, 4, "0+:0", impl.OK}, {3, 4, "++:0", impl.OK}, {-3, 4, "--:0", impl.OK},
		{1, 3, ":0+", impl.OK}, {-1, 3, ":0-", impl.OK}, {2, 3, ":+0", impl.OK}, {-2, 3, ":-0", impl.OK},
		{1, 5, ":00++", impl.OK}, {2, 5, ":0++0", impl.OK}, {1, 6, "0:0+", impl.OK}, {5, 6, "+:+0", impl.OK},
		{1, 1 << 15, "00000000000000+:0", impl.OK}, {-1, 1 << 16, "000000000000000-:0", impl.OK}, {1, 1 << 17, ":", impl.ErrLimit},
		{1, 16383, ":0000000000000+", impl.OK}, {-16382, 16383, ":-------------0", impl.OK},
		{1, 2 * 16383, "0:0000000000000+", impl.OK}, {1, 65536 * 16383, "0000000000000000:0000000000000+", impl.OK},
		{1, 131072 * 8191, ":", impl.ErrLimit}, {1, 32767, ":", impl.ErrLimit}, {1, impl.MaxPart, ":", impl.ErrLimit},
		{3, 2, ":", impl.ErrRange}, {-3, 2, ":", impl.ErrRange}, {2, 1, ":", impl.ErrRange}, {impl.MaxPart, impl.MaxPart - 1, ":", impl.ErrRange},
		{-impl.MaxPart, impl.MaxPart - 1, ":", impl.ErrRange}, {impl.MaxPart, 1, ":", impl.ErrRange}, {-impl.MaxPart, 1, ":", impl.ErrRange},
		{impl.MaxPart - 1, impl.MaxPart, ":", impl.ErrLimit}, {1 - impl.MaxPart, impl.MaxPart, ":", impl.ErrLimit},
	} {
		got, code := impl.StreamOf(frac(row.p, row.q))
		wantStream(t, fmt.Sprint("StreamOf ", row.p, "/", row.q), got, code, stream(row.text), row.code)
	}
}

func TestStreamsMadeRatios(t *testing.T) {
	const most = 1000000000000000000
	for _, row := range []struct {
		p, q int64
		want impl.Ratio
		code int64
	}{
		{6, -4, frac(-3, 2), impl.OK}, {-6, -4, frac(3, 2), impl.OK}, {0, -7, frac(0, 1), impl.OK}, {0, 1, frac(0, 1), impl.OK}, {5, 5, frac(1, 1), impl.OK},
		{impl.MaxPart, 1, frac(impl.MaxPart, 1), impl.OK}, {-impl.MaxPart, 1, frac(-impl.MaxPart, 1), impl.OK}, {impl.MaxPart, -1, frac(-impl.MaxPart, 1), impl.OK},
		{1, impl.MaxPart, frac(1, impl.MaxPart), impl.OK}, {1, -impl.MaxPart, frac(-1, impl.MaxPart), impl.OK}, {2, 2 * impl.MaxPart, frac(1, impl.MaxPart), impl.OK},
		{impl.MaxPart + 1, 1, impl.Ratio{}, impl.ErrLimit}, {-impl.MaxPart - 1, 1, impl.Ratio{}, impl.ErrLimit}, {1, impl.MaxPart + 1, impl.Ratio{}, impl.ErrLimit}, {1, -impl.MaxPart - 1, impl.Ratio{}, impl.ErrLimit},
		{most, most, frac(1, 1), impl.OK}, {-most, most, frac(-1, 1), impl.OK}, {most, -most, frac(-1, 1), impl.OK}, {most, most - 1, impl.Ratio{}, impl.ErrLimit}, {0, most, frac(0, 1), impl.OK},
		{most, most / 2, frac(2, 1), impl.OK}, {most, 1, impl.Ratio{}, impl.ErrLimit}, {1, most, impl.Ratio{}, impl.ErrLimit},
		// What is too large to be made anything of comes first, even where it is equal, or by 0.
		{most + 1, most + 1, impl.Ratio{}, impl.ErrLimit}, {-most - 1, most, impl.Ratio{}, impl.ErrLimit}, {0, most + 1, impl.Ratio{}, impl.ErrLimit}, {0, -most - 1, impl.Ratio{}, impl.ErrLimit},
		{most + 1, 0, impl.Ratio{}, impl.ErrLimit}, {-1 << 63, 0, impl.Ratio{}, impl.ErrLimit}, {-1 << 63, -1 << 63, impl.Ratio{}, impl.ErrLimit}, {1<<63 - 1, 1<<63 - 1, impl.Ratio{}, impl.ErrLimit},
		{most, 0, impl.Ratio{}, impl.ErrState}, {0, 0, impl.Ratio{}, impl.ErrState}, {1, 0, impl.Ratio{}, impl.ErrState}, {-most, 0, impl.Ratio{}, impl.ErrState},
	} {
		if got, code := impl.MakeRatio(row.p, row.q); got != row.want || code != row.code {
			t.Errorf("MakeRatio %d and %d: got %v with %d, want %v with %d", row.p, row.q, got, code, row.want, row.code)
		}
	}
}

func TestStreamsCompared(t *testing.T) {
	const large = impl.MaxPart
	for _, row := range []struct {
		r, s impl.Ratio
		want int64
	}{
		{frac(1, 3), frac(1, 2), -1}, {frac(-1, 3), frac(-1, 2), 1}, {frac(2, 3), frac(2, 3), 0}, {frac(-1, 2), frac(1, 2), -1}, {frac(0, 1), frac(-1, large), 1},
		{frac(large-1, large), frac(large-2, large-1), 1}, {frac(1-large, large), frac(2-large, large-1), -1}, {frac(large, 1), frac(large, large-1), 1}, {frac(-large, 1), frac(large, 1), -1},
	} {
		if got, code := impl.CompareRatios(row.r, row.s); got != row.want || code != impl.OK {
			t.Errorf("CompareRatios %v and %v: got %d with %d", row.r, row.s, got, code)
		}
		if got, code := impl.CompareRatios(row.s, row.r); got != -row.want || code != impl.OK {
			t.Errorf("CompareRatios %v and %v: got %d with %d", row.s, row.r, got, code)
		}
	}
	// One number may have many streams.
	equal := []string{"+:0", "++:-", "0:+", "0+:+", "+-:+", "+000000000000000:0", "0+++++++++++++++:+"}
	for _, text := range equal {
		for _, other := range equal {
			if got, code := impl.CompareStreams(stream(text), stream(other)); got != 0 || code != impl.OK {
				t.Errorf("CompareStreams %s and %s: got %d with %d", text, other, got, code)
			}
		}
		for other, want := range map[string]int64{"+000000000000000:-": 1, "+000000000000000:0000000000000-": 1, "+000000000000000:0000000000000+": -1, ":+": -1, ":-": 1, "-:0": 1} {
			if got, code := impl.CompareStreams(stream(text), stream(other)); got != want || code != impl.OK {
				t.Errorf("CompareStreams %s and %s: got %d with %d, want %d", text, other, got, code, want)
			}
			if got, code := impl.CompareStreams(stream(other), stream(text)); got != -want || code != impl.OK {
				t.Errorf("CompareStreams %s and %s: got %d with %d, want %d", other, text, got, code, -want)
			}
		}
	}
}

func TestStreamsNormalByHand(t *testing.T) {
	for _, row := range [][2]string{
		{":+", ":+"}, {":++", ":+"}, {"+:+", ":+"}, {"++++++++++++++++:++++++++++++++", ":+"}, {"-:+", "-:+"}, {"-+++:++", "-:+"},
		{":+0+0", ":+0"}, {"0:+0", ":0+"}, {"+0:+0", ":+0"}, {"0+0:+0+0", ":0+"}, {"+0+0+0+0+0+0+0+0:+0", ":+0"}, {"0+0+0+0+0+0+0+0+:0+0+0+", ":0+"},
		{"-0:+0", "-:0+"}, {"+:+0", "+:+0"}, {"+0+:+0", "+0+:+0"}, {"-0+-0:+-0", ":-0+"}, {":+-0+-0+-0+-0", ":+-0"}, {":+-0+-0+-0+-", ":+-0+-0+-0+-"},
		{":++0++0", ":++0"}, {"+0:++0", ":+0+"}, {"0:++0", ":0++"}, {"00:++0", "0:0++"}, {":00000000000000", ":0"}, {":0000000+000000", ":0000000+000000"}, {":000000+000000+", ":000000+"},
	} {
		got, code := impl.NormalStream(stream(row[0]))
		wantStream(t, "NormalStream of "+row[0], got, code, stream(row[1]), impl.OK)
		// What has the same digits is told apart by SameStream alone.
		if s, normal := stream(row[0]), stream(row[1]); impl.SameStream(s, normal) != (row[0] == row[1]) {
			t.Errorf("SameStream of %s and %s", row[0], row[1])
		}
	}
}

func TestStreamsSame(t *testing.T) {
	s := stream("+0:-")
	for _, text := range []string{"+0:0", "+-:-", "+:-", ":-", "+0-:-", "+0:--", "+0:", ":+0-", "+:0-"} {
		if u := stream(text); impl.SameStream(s, u) || impl.SameStream(u, s) || !impl.SameStream(u, stream(text)) {
			t.Errorf("SameStream of +0:- and %s", text)
		}
	}
	empty, none := impl.Stream{Head: []int8{}, Loop: []int8{}}, impl.Stream{}
	odd := impl.Stream{Head: []int8{5}, Loop: []int8{-128}}
	if !impl.SameStream(empty, none) || !impl.SameStream(none, empty) || !impl.SameStream(odd, odd) || impl.SameStream(odd, none) {
		t.Error("streams need not be valid, nor slices nil, to be the same")
	}
	if !impl.SameStream(impl.Stream{Head: []int8{}, Loop: []int8{1}}, stream(":+")) {
		t.Error("a head without digits is one, nil or not")
	}
}

func TestStreamsAtTheirLimits(t *testing.T) {
	head, loop := strings.Repeat("+-", impl.MaxHead/2), strings.Repeat("0-", impl.MaxLoop/2)
	full := stream(head + ":" + loop)
	if !impl.ValidStream(full) || !impl.ValidStream(stream(":0")) {
		t.Error("streams with MaxHead and MaxLoop digits, and with the fewest, are valid")
	}
	for i, want := range map[int64]int8{0: 1, 15: -1, 16: 0, 17: -1, 29: -1, 30: 0, 31: -1, 999999999: -1, 1000000000: 0} {
		if got, code := impl.DigitAt(full, i); got != want || code != impl.OK {
			t.Errorf("DigitAt %d: got %d with %d, want %d", i, got, code, want)
		}
	}
	for _, n := range []int64{0, 1, 16, 17, impl.MaxAsk} {
		if got, code := impl.DigitsOf(full, n); code != impl.OK || !slices.Equal(got, unrolled(full, int(n))) {
			t.Errorf("DigitsOf %d: got %s with %d", n, textOf(got), code)
		}
	}
	// The least and the greatest loop behind the longest head.
	for text, want := range map[string]impl.Ratio{
		"++++++++++++++++:-": frac(65534, 65536), "----------------:+": frac(-32767, 32768), "0000000000000000:0000000000000+": frac(1, 65536*16383),
		":+": frac(1, 1), ":-": frac(-1, 1), ":-+": frac(-1, 3), ":0+": frac(1, 3), "+:-": frac(0, 1), ":+-": frac(1, 3),
	} {
		want, _ = impl.MakeRatio(want.P, want.Q)
		if got, code := impl.ValueOf(stream(text)); got != want || code != impl.OK {
			t.Errorf("ValueOf %s: got %v with %d, want %v", text, got, code, want)
		}
	}
	halved, code := impl.HalfStream(stream(head[1:] + ":" + loop))
	wantStream(t, "HalfStream of a head with a place left", halved, code, stream("0"+head[1:]+":"+loop), impl.OK)
	halved, code = impl.HalfStream(full)
	wantStream(t, "HalfStream of a full head", halved, code, impl.Stream{}, impl.ErrLimit)
	halved, code = impl.HalfStream(stream(":0"))
	wantStream(t, "HalfStream of :0", halved, code, stream("0:0"), impl.OK)
}

func TestStreamsBoundsByHand(t *testing.T) {
	for _, row := range []struct {
		digits    string
		low, high impl.Ratio
	}{
		{"", frac(-1, 1), frac(1, 1)}, {"+", frac(0, 1), frac(1, 1)}, {"0", frac(-1, 2), frac(1, 2)}, {"-", frac(-1, 1), frac(0, 1)}, {"+-", frac(0, 1), frac(1, 2)}, {"-0", frac(-3, 4), frac(-1, 4)},
		{strings.Repeat("+", 30), frac(1<<29-1, 1<<29), frac(1, 1)}, {strings.Repeat("-", 30), frac(-1, 1), frac(1-1<<29, 1<<29)},
		{strings.Repeat("0", 30), frac(-1, 1<<30), frac(1, 1<<30)}, {strings.Repeat("0", 29) + "+", frac(0, 1), frac(1, 1<<29)},
	} {
		if low, high, code := impl.BoundsOf(digitList(row.digits)); low != row.low || high != row.high || code != impl.OK {
			t.Errorf("BoundsOf %q: got %v and %v with %d, want %v and %v", row.digits, low, high, code, row.low, row.high)
		}
	}
}

func TestStreamsImages(t *testing.T) {
	for _, row := range []struct {
		m         impl.Moebius
		low, high impl.Ratio
	}{
		{machine(1, 0, 0, 1), frac(-1, 1), frac(1, 1)}, {machine(-1, 0, 0, 1), frac(-1, 1), frac(1, 1)}, {machine(0, 2, 0, 4), frac(1, 2), frac(1, 2)}, {machine(0, 0, 1, 2), frac(0, 1), frac(0, 1)},
		{machine(2, 4, 1, 2), frac(2, 1), frac(2, 1)}, {machine(1, 0, 1, 2), frac(-1, 1), frac(1, 3)}, {machine(0, 1, 1, 2), frac(1, 3), frac(1, 1)}, {machine(5, 1, 0, 2), frac(-2, 1), frac(3, 1)},
		{machine(impl.MaxEntry, impl.MaxEntry, 0, 1), frac(0, 1), frac(2*impl.MaxEntry, 1)}, {machine(-impl.MaxEntry, impl.MaxEntry, 999999, impl.MaxEntry), frac(0, 1), frac(2*impl.MaxEntry, 1)},
		{machine(1, -impl.MaxEntry, 999999, impl.MaxEntry), frac(-1-impl.MaxEntry, 1), frac(-999999, 1999999)},
	} {
		if low, high, code := impl.ImageOf(row.m); low != row.low || high != row.high || code != impl.OK {
			t.Errorf("ImageOf %v: got %v and %v with %d, want %v and %v", row.m, low, high, code, row.low, row.high)
		}
	}
}

func TestStreamsApplied(t *testing.T) {
	const large, entry = impl.MaxPart, impl.MaxEntry
	for _, row := range []struct {
		m    impl.Moebius
		x    impl.Ratio
		want impl.Ratio
		code int64
	}{
		{machine(1, 1, 0, 2), frac(1, 3), frac(2, 3), impl.OK}, {machine(1, 0, 1, 2), frac(-3, 1), frac(3, 1), impl.OK}, {machine(0, 0, 0, 1), frac(large, 1), frac(0, 1), impl.OK},
		{machine(1, 0, 1, 2), frac(-2, 1), impl.Ratio{}, impl.ErrState}, {machine(2, 4, 1, 2), frac(-2, 1), impl.Ratio{}, impl.ErrState}, {machine(0, 0, -1, 2), frac(2, 1), impl.Ratio{}, impl.ErrState},
		{machine(1, 0, 2, 3), frac(-3, 2), impl.Ratio{}, impl.ErrState}, {machine(1, 0, 0, 1), frac(large, 1), frac(large, 1), impl.OK}, {machine(1, 0, 0, 1), frac(-1, large), frac(-1, large), impl.OK},
		{machine(1, 1, 0, 1), frac(large, 1), impl.Ratio{}, impl.ErrLimit}, {machine(1, 0, 0, 2), frac(1, large), impl.Ratio{}, impl.ErrLimit}, {machine(2, 0, 0, 2), frac(1, large), frac(1, large), impl.OK},
		{machine(entry, entry, entry-1, entry), frac(large, large-1), impl.Ratio{}, impl.ErrLimit}, {machine(entry, -entry, -999999, entry), frac(-large, large-1), impl.Ratio{}, impl.ErrLimit},
		{machine(entry, 0, 0, entry), frac(-large, large-1), frac(-large, large-1), impl.OK},
	} {
		if got, code := impl.ApplyMoebius(row.m, row.x); got != row.want || code != row.code {
			t.Errorf("ApplyMoebius %v and %v: got %v with %d, want %v with %d", row.m, row.x, got, code, row.want, row.code)
		}
	}
}

func TestStreamsComposed(t *testing.T) {
	const entry = impl.MaxEntry
	none := impl.Moebius{}
	for _, row := range []struct {
		m, n, want impl.Moebius
		code       int64
	}{
		{machine(1, 1, 0, 2), machine(1, 1, 0, 2), machine(1, 3, 0, 4), impl.OK}, {machine(2, 0, 0, 2), machine(3, 3, 0, 6), machine(1, 1, 0, 2), impl.OK},
		// First n, and then m: half of x + 1 is not 1 and half of x.
		{machine(1, 1, 0, 1), machine(1, 0, 0, 2), machine(1, 2, 0, 2), impl.OK}, {machine(1, 0, 0, 2), machine(1, 1, 0, 1), machine(1, 1, 0, 2), impl.OK},
		{machine(0, 0, 0, 5), machine(3, 1, 1, 2), machine(0, 0, 1, 2), impl.OK}, {machine(0, 1, 1, 2), machine(0, 1, 1, 2), machine(1, 2, 2, 5), impl.OK},
		// D would be less than 0: the values of n lie where m divides by what is less than 0.
		{machine(1, 0, 1, 2), machine(0, -3, 0, 1), machine(0, 3, 0, 1), impl.OK}, {machine(1, 0, 1, 2), machine(1, -4, 0, 1), machine(-1, 4, -1, 2), impl.OK},
		// m divides by 0 for a value of n, or for each.
		{machine(1, 0, 1, 2), machine(1, -2, 0, 1), none, impl.ErrState}, {machine(1, 0, 1, 2), machine(0, -2, 0, 1), none, impl.ErrState}, {machine(1, 0, 1, 2), machine(-2, -4, 1, 2), none, impl.ErrState},
		{machine(2, 4, 1, 2), machine(-2, -4, 1, 2), none, impl.ErrState}, {machine(1, 0, 1, 2), machine(1, -3, 0, 1), none, impl.ErrState}, {machine(1, 0, 1, 2), machine(1, -1, 0, 1), none, impl.ErrState},
		{machine(entry, 0, 0, 1), machine(1, 0, 0, entry), machine(1, 0, 0, 1), impl.OK}, {machine(entry, 1, 0, 1), machine(1, 0, 0, 1), machine(entry, 1, 0, 1), impl.OK},
		{machine(entry, 0, 0, 1), machine(2, 1, 0, 1), none, impl.ErrLimit}, {machine(entry, 1, 0, 1), machine(1, 1, 0, 1), none, impl.ErrLimit}, {machine(1, 0, 0, 2), machine(1, 0, 0, 500001), none, impl.ErrLimit},
		{machine(1, 0, 0, 2), machine(1, 0, 0, 500000), machine(1, 0, 0, entry), impl.OK}, {machine(-entry, -1, 0, 1), machine(1, 1, 0, 1), none, impl.ErrLimit}, {machine(-entry, 0, 0, 1), machine(1, 0, 0, 1), machine(-entry, 0, 0, 1), impl.OK},
		// ErrState comes ahead of ErrLimit.
		{machine(entry, 0, 1, 2), machine(entry, -entry, 0, 1), none, impl.ErrState}, {machine(entry, entry, 999999, entry), machine(entry, entry, 999999, entry), none, impl.ErrLimit},
	} {
		got, code := impl.ComposeMoebius(row.m, row.n)
		if got != row.want || code != row.code {
			t.Errorf("ComposeMoebius %v and %v: got %v with %d, want %v with %d", row.m, row.n, got, code, row.want, row.code)
		}
		if want, wantCode := composed(row.m, row.n); row.want != want || row.code != wantCode {
			t.Errorf("ComposeMoebius %v and %v: the model has %v with %d", row.m, row.n, want, wantCode)
		}
	}
}

// turnsText returns turns with the digits told and taken: ">" or "<", the digit, and the state.
func turnsText(turns []impl.Turn) string {
	var list []string
	for _, turn := range turns {
		way := "<"
		if turn.Told {
			way = ">"
		}
		list = append(list, fmt.Sprintf("%s%s %d,%d,%d,%d", way, textOf([]int8{turn.Digit}), turn.State.A, turn.State.B, turn.State.C, turn.State.D))
	}
	return strings.Join(list, "; ")
}

func TestStreamsTurnsByHand(t *testing.T) {
	for _, row := range []struct {
		m    impl.Moebius
		s    string
		n    int64
		want string
	}{
		// The identity takes a digit, and tells it.
		{machine(1, 0, 0, 1), "+:0-", 2, "<+ 1,1,0,2; >+ 1,0,0,1; <0 1,0,0,2; >0 1,0,0,1"},
		{machine(9, 0, 0, 9), ":-", 1, "<- 1,-1,0,2; >- 1,0,0,1"},
		{machine(-1, 0, 0, 1), ":+", 1, "<+ -1,-1,0,2; >- -1,0,0,1"},
		{machine(1, 0, 0, 1), ":+", 0, ""},
		// Half of x + 1 is from 0 to 1: 1 is told before anything is taken, and x is left.
		{machine(1, 1, 0, 2), ":0", 3, ">+ 1,0,0,1; <0 1,0,0,2; >0 1,0,0,1; <0 1,0,0,2; >0 1,0,0,1"},
		// Half of x is from -1/2 to 1/2, which 0 tells just so, ahead of the others.
		{machine(1, 0, 0, 2), ":+", 2, ">0 1,0,0,1; <+ 1,1,0,2; >+ 1,0,0,1"},
		// Constant ones never take; of 1/2, which 0 and 1 can tell, 0 is told first, and of 0 as well.
		{machine(0, 1, 0, 2), ":+", 3, ">0 0,1,0,1; >+ 0,1,0,1; >+ 0,1,0,1"},
		{machine(0, -1, 0, 2), ":+", 2, ">0 0,-1,0,1; >- 0,-1,0,1"},
		{machine(0, 0, 0, 7), ":+", 2, ">0 0,0,0,1; >0 0,0,0,1"},
		{machine(0, 0, 3, 6), ":+", 2, ">0 0,0,1,2; >0 0,0,1,2"},
		{machine(0, 3, 0, 3), ":-", 2, ">+ 0,1,0,1; >+ 0,1,0,1"},
		{machine(0, -3, 0, 3), ":-", 1, ">- 0,-1,0,1"},
		{machine(1, 2, 1, 2), ":-", 2, ">+ 1,2,1,2; >+ 1,2,1,2"},
		{machine(0, 1, 0, 3), ":-", 4, ">0 0,2,0,3; >+ 0,1,0,3; >0 0,2,0,3; >+ 0,1,0,3"},
		// x / (x + 2) is from -1 to 1/3.
		{machine(1, 0, 1, 2), ":0", 2, "<0 1,0,1,4; >0 2,0,1,4; <0 2,0,1,8; >0 4,0,1,8"},
	} {
		turns, code := impl.MoebiusTurns(row.m, stream(row.s), row.n)
		if got := turnsText(turns); code != impl.OK || got != row.want {
			t.Errorf("MoebiusTurns %v, %s, %d: got %s with %d, want %s", row.m, row.s, row.n, got, code, row.want)
		}
	}
}

// Of x / (x + 2) and 0 a digit is told for each one that is taken, and D is 2 to the power of one more than have been
// taken: with 57, it is MaxState.
func TestStreamsStatesAtTheirLimit(t *testing.T) {
	for _, m := range []impl.Moebius{machine(1, 0, 1, 2), machine(-1, 0, 1, 2), machine(1, 0, -1, 2)} {
		turns, code := impl.MoebiusTurns(m, stream(":0"), 57)
		want := machine(m.A<<57, 0, m.C, impl.MaxState)
		if code != impl.OK || len(turns) != 114 || turns[113].State != want {
			t.Errorf("MoebiusTurns %v: got %v with %d, want %v at last", m, turns, code, want)
		}
		digits, taken, code := impl.MoebiusDigits(m, stream(":0"), 57)
		if code != impl.OK || taken != 57 || !slices.Equal(digits, make([]int8, 57)) {
			t.Errorf("MoebiusDigits %v: got %v and %d with %d", m, digits, taken, code)
		}
		for n := int64(58); n <= impl.MaxDigits; n++ {
			turns, code := impl.MoebiusTurns(m, stream(":0"), n)
			digits, taken, digitsCode := impl.MoebiusDigits(m, stream(":0"), n)
			if code != impl.ErrLimit || digitsCode != impl.ErrLimit || len(turns) != 0 || len(digits) != 0 || taken != 0 {
				t.Errorf("%v, %d: got %v with %d, and %v and %d with %d", m, n, turns, code, digits, taken, digitsCode)
			}
		}
	}
	// When 1 is taken n times, D is 3 times 2 to the power n, less 1, and when -1 is, 2 to the power n, plus 1: one unit
	// more than MaxState is too much.
	for text, taken := range map[string]int{":0": 57, ":+": 56, ":-": 57} {
		r := machineRun{machine(1, 0, 1, 2), stream(text)}
		turns, n, code := longest(r)
		if code != impl.ErrLimit || len(turns)-int(n) != taken {
			t.Errorf("%v: got %d digits of %d, with %d then, want of %d", r, n, len(turns)-int(n), code, taken)
		}
	}
}

func TestStreamsMaxDigitsAreTold(t *testing.T) {
	for _, text := range []string{":0", ":+", ":-", "+:0-", "0:+-0"} {
		s := stream(text)
		same, taken, code := impl.MoebiusDigits(machine(1, 0, 0, 1), s, impl.MaxDigits)
		if code != impl.OK || taken != impl.MaxDigits || !slices.Equal(same, unrolled(s, impl.MaxDigits)) {
			t.Errorf("the identity of %s: got %s and %d with %d", text, textOf(same), taken, code)
		}
		half, taken, code := impl.MoebiusDigits(machine(1, 0, 0, 2), s, impl.MaxDigits)
		if code != impl.OK || taken != impl.MaxDigits-1 || !slices.Equal(half, append([]int8{0}, same[:impl.MaxDigits-1]...)) {
			t.Errorf("half of %s: got %s and %d with %d", text, textOf(half), taken, code)
		}
		neg, taken, code := impl.MoebiusDigits(machine(-1, 0, 0, 1), s, impl.MaxDigits)
		opposite, _ := impl.NegStream(s)
		if code != impl.OK || taken != impl.MaxDigits || !slices.Equal(neg, unrolled(opposite, impl.MaxDigits)) {
			t.Errorf("the opposite of %s: got %s and %d with %d", text, textOf(neg), taken, code)
		}
		for _, value := range []int64{1, 0, -1} {
			constant, taken, code := impl.MoebiusDigits(machine(0, 5*value, 0, 5), s, impl.MaxDigits)
			if code != impl.OK || taken != 0 || !slices.Equal(constant, slices.Repeat([]int8{int8(value)}, impl.MaxDigits)) {
				t.Errorf("always %d, of %s: got %s and %d with %d", value, text, textOf(constant), taken, code)
			}
		}
	}
}

// ErrState is for machines alone whose values are not from -1 to 1, however little, at one end or at both.
func TestStreamsMachinesWithOtherValues(t *testing.T) {
	const entry = impl.MaxEntry
	for _, row := range []struct {
		m    impl.Moebius
		code int64
	}{
		{machine(2, 0, 0, 1), impl.ErrState}, {machine(1, 1, 0, 1), impl.ErrState}, {machine(1, -1, 0, 1), impl.ErrState}, {machine(0, 2, 0, 1), impl.ErrState}, {machine(0, -2, 0, 1), impl.ErrState},
		{machine(entry, 0, 0, entry-1), impl.ErrState}, {machine(entry-1, 0, 0, entry), impl.OK}, {machine(entry, 0, 0, entry), impl.OK}, {machine(1, 0, 999999, entry), impl.OK}, {machine(2, 0, 999999, entry), impl.ErrState},
		{machine(1, 1, 999999, entry), impl.OK}, {machine(-1, 2, 999999, entry), impl.ErrState}, {machine(entry, 999999, 999999, entry), impl.OK}, {machine(entry, entry, 999999, entry), impl.ErrState}, {machine(-entry, -entry, 999999, entry), impl.ErrState},
		{machine(0, 1, -1, 2), impl.OK}, {machine(0, 2, -1, 2), impl.ErrState}, {machine(0, 2, 1, 2), impl.ErrState}, {machine(0, -2, -1, 2), impl.ErrState}, {machine(3, 0, 1, 2), impl.ErrState},
	} {
		for _, n := range []int64{0, 1, 8} {
			turns, code := impl.MoebiusTurns(row.m, stream(":0"), n)
			_, _, digitsCode := impl.MoebiusDigits(row.m, stream(":0"), n)
			if code != row.code || digitsCode != row.code || code != impl.OK && len(turns) != 0 {
				t.Errorf("MoebiusTurns %v, %d: got %d, and %d of MoebiusDigits, want %d", row.m, n, code, digitsCode, row.code)
			}
		}
		for _, n := range []int64{-1, 61} {
			if _, code := impl.MoebiusTurns(row.m, stream(":0"), n); code != impl.ErrRange {
				t.Errorf("MoebiusTurns %v, %d: got %d, want ErrRange ahead of ErrState", row.m, n, code)
			}
		}
	}
}

func TestStreamsOfNoText(t *testing.T) {
	long := strings.Repeat("0", 17)
	for _, text := range []string{"", ":", "+", "+0", "+:", "0+:", "::", ":+:", "+::0", ":+:-", "+:0:", "+ :0", " :0", ":0 ", ":0\n", ":1", "1:0", ":-1", ":*", ":o", "+,0:-", "\xff:0", ":0\x00", "\u2212:0", "+0;-",
		long + ":0", ":" + long[:15], long[:16] + ":" + long[:15], long + ":" + long[:14], long + ":", ":" + long} {
		if got, code := impl.ReadStream(text); code != impl.ErrSyntax || len(got.Head) != 0 || len(got.Loop) != 0 {
			t.Errorf("ReadStream of %q: got %v with %d", text, got, code)
		}
	}
	for _, text := range []string{":0", ":+", ":-", "+:-", "-0+:+0-", long[:16] + ":" + long[:14]} {
		got, code := impl.ReadStream(text)
		wantStream(t, "ReadStream of "+text, got, code, stream(text), impl.OK)
	}
}
