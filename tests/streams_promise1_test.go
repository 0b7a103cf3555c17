package tests

import (
	"fmt"
	"slices"
	"strings"
	"testing"

	"loop.example/g01242/impl"
)

// streamArgs are arguments for the functions of chapter 3, of which each takes those it needs.
type streamArgs struct {
	s, u   impl.Stream
	r, q   impl.Ratio
	m, o   impl.Moebius
	n      int64
	digits []int8
	text   string
}

// streamCalls calls each function of chapter 3 and returns, by name, all that it returns; the code is the last one.
func streamCalls(x streamArgs) map[string][]any {
	all := func(list ...any) []any { return list }
	return map[string][]any{
		"ValidRatio":     all(impl.ValidRatio(x.r), int64(impl.OK)),
		"MakeRatio":      all(impl.MakeRatio(x.r.P, x.q.Q)),
		"CompareRatios":  all(impl.CompareRatios(x.r, x.q)),
		"ValidStream":    all(impl.ValidStream(x.s), int64(impl.OK)),
		"SameStream":     all(impl.SameStream(x.s, x.u), int64(impl.OK)),
		"DigitAt":        all(impl.DigitAt(x.s, x.n)),
		"DigitsOf":       all(impl.DigitsOf(x.s, x.n)),
		"BoundsOf":       all(impl.BoundsOf(x.digits)),
		"ValueOf":        all(impl.ValueOf(x.s)),
		"StreamOf":       all(impl.StreamOf(x.r)),
		"NormalStream":   all(impl.NormalStream(x.s)),
		"NegStream":      all(impl.NegStream(x.s)),
		"HalfStream":     all(impl.HalfStream(x.s)),
		"CompareStreams": all(impl.CompareStreams(x.s, x.u)),
		"AverageOf":      all(impl.AverageOf(x.s, x.u)),
		"ValidMoebius":   all(impl.ValidMoebius(x.m), int64(impl.OK)),
		"ApplyMoebius":   all(impl.ApplyMoebius(x.m, x.r)),
		"ImageOf":        all(impl.ImageOf(x.m)),
		"ComposeMoebius": all(impl.ComposeMoebius(x.m, x.o)),
		"MoebiusTurns":   all(impl.MoebiusTurns(x.m, x.s, x.n)),
		"MoebiusDigits":  all(impl.MoebiusDigits(x.m, x.s, x.n)),
		"StreamText":     all(impl.StreamText(x.s), int64(impl.OK)),
		"ReadStream":     all(impl.ReadStream(x.text)),
	}
}

// checkStreamCalls is checkPurity of the functions of chapter 3; what they return, if it is something, is valid.
func checkStreamCalls(t *testing.T, x streamArgs) map[string][]any {
	t.Helper()
	lists := []*[]int8{&x.s.Head, &x.s.Loop, &x.u.Head, &x.u.Loop, &x.digits}
	var before [][]int8
	for i, list := range lists {
		*list = spare(*list, int8(50+i))
		before = append(before, whole(*list))
	}
	intact := func() bool {
		for i, list := range lists {
			if !slices.Equal(whole(*list), before[i]) {
				return false
			}
		}
		return true
	}
	calls := func() map[string][]any { return streamCalls(x) }
	results := checkPurity(t, fmt.Sprint(x), calls, intact)
	for name, got := range results {
		for _, result := range got[:len(got)-1] {
			if got[len(got)-1] == int64(impl.OK) && !isValid(result) {
				t.Errorf("%s of %v: got %v, which is not valid", name, x, result)
			}
		}
	}
	return results
}

func isValid(result any) bool {
	switch x := result.(type) {
	case impl.Ratio:
		return impl.ValidRatio(x)
	case impl.Stream:
		// Both lists are new, and neither has room in the other one.
		return impl.ValidStream(x) && isApart(x.Head, x.Loop)
	case impl.Moebius:
		return impl.ValidMoebius(x)
	}
	return true
}

// isApart reports whether no change of one list, its unused capacity included, is seen in the other one.
func isApart(x, y []int8) bool {
	x, y = x[:cap(x)], y[:cap(y)]
	keptX, keptY := slices.Clone(x), slices.Clone(y)
	fill(x, 99)
	apart := slices.Equal(y, keptY)
	copy(x, keptX)
	fill(y, 99)
	apart = apart && slices.Equal(x, keptX)
	copy(y, keptY)
	return apart
}

// wantCodes checks the codes of all calls that are named.
func wantCodes(t *testing.T, x streamArgs, want int64, names ...string) {
	t.Helper()
	wantNamed(t, fmt.Sprint(x), checkStreamCalls(t, x), want, names...)
}

func TestPromise1StreamsReturnTheSameForAll(t *testing.T) {
	d := draw(33)
	numbers := []int64{-1 << 63, -1, 0, 1, 30, 31, 59, 60, 61, 399, 400, 401, 999999999, 1000000000, 1000000001, 1<<63 - 1}
	ratios := []impl.Ratio{{}, frac(1, 3), frac(-1, 1), frac(1, 1), frac(2, 4), frac(1, -2), frac(5, 1), frac(1, impl.MaxPart), frac(-impl.MaxPart, 1), frac(-1<<63, -1), frac(-1<<63, -1<<63), frac(1<<63-1, 1<<63-1)}
	machines := []impl.Moebius{{}, machine(2, 0, 0, 1), machine(1, 0, 1, 1), machine(-1<<63, 0, 0, 1), machine(0, 0, -1<<63, 1), machine(0, 0, 0, -1<<63), machine(1<<63-1, 1<<63-1, 1<<63-1, 1<<63-1)}
	list := append(someStreams(), impl.Stream{}, stream("+:"), impl.Stream{Loop: []int8{2}})
	for i, s := range list {
		x := streamArgs{s: s, u: list[(i*31+7)%len(list)], n: numbers[i%len(numbers)], m: d.machine(), o: d.machine(), r: ratios[i%len(ratios)], q: ratios[i*5%len(ratios)], digits: d.digitsOf(d.below(33)), text: streamText(s)}
		if i%3 == 0 {
			x.r, _ = ratioOf(valueOf(stream("+:0+-")))
			x.n = d.below(61)
		}
		if i%5 == 0 {
			x.m, x.o = x.o, machines[i/5%len(machines)]
		}
		if i%7 == 0 {
			x.m = machines[i/7%len(machines)]
		}
		checkStreamCalls(t, x)
	}
}

// fineArgs are such that every function returns OK.
func fineArgs() streamArgs {
	return streamArgs{s: stream("+0:0-"), u: stream("-:+"), r: frac(1, 3), q: frac(-2, 3), m: machine(1, 1, 0, 2), o: machine(1, 0, 1, 2), n: 5, digits: digitList("+0-"), text: "+0:0-"}
}

func TestPromise1StreamsThatAreFine(t *testing.T) {
	for name, got := range checkStreamCalls(t, fineArgs()) {
		if codeOf(got) != impl.OK {
			t.Errorf("%s: got %d", name, codeOf(got))
		}
	}
}

func TestPromise1StreamsThatAreNotValid(t *testing.T) {
	long := strings.Repeat("0", 17)
	list := []impl.Stream{{}, stream("+:"), {Head: []int8{}, Loop: []int8{}}, stream(long + ":0"), stream(":" + long[:15]), stream(long[:16] + ":" + long[:15])}
	for _, digit := range []int8{2, -2, 127, -128, 3, 4} {
		list = append(list, impl.Stream{Loop: []int8{digit}}, impl.Stream{Head: []int8{digit}, Loop: []int8{1}}, impl.Stream{Head: []int8{1, 0, digit}, Loop: []int8{1}}, impl.Stream{Head: []int8{1, 0}, Loop: []int8{1, 0, digit}})
	}
	for _, bad := range list {
		if impl.ValidStream(bad) || impl.StreamText(bad) != "" {
			t.Errorf("%v is not valid, and has no text", bad)
		}
		x := fineArgs()
		x.s = bad
		// ErrInvalid comes first: also where an index or a count is not in its range, and a machine has other values.
		for _, n := range []int64{5, -1, 401, 1000000001} {
			x.n = n
			wantCodes(t, x, impl.ErrInvalid, "DigitAt", "DigitsOf", "ValueOf", "NormalStream", "NegStream", "HalfStream", "CompareStreams", "AverageOf", "MoebiusTurns", "MoebiusDigits")
			x.m = machine(2, 0, 0, 1)
		}
		x = fineArgs()
		x.u = bad
		wantCodes(t, x, impl.ErrInvalid, "CompareStreams", "AverageOf")
		wantCodes(t, x, impl.OK, "DigitAt", "ValueOf", "MoebiusDigits")
	}
}

func TestPromise1RatiosThatAreNotValid(t *testing.T) {
	const part = impl.MaxPart
	for _, r := range []impl.Ratio{frac(0, 1), frac(part, 1), frac(-part, 1), frac(1, part), frac(-1, part), frac(part, part-1), frac(part-1, part), frac(-7, 12)} {
		if !impl.ValidRatio(r) {
			t.Errorf("%v is valid", r)
		}
	}
	for _, bad := range []impl.Ratio{{}, frac(1, 0), frac(0, 2), frac(0, -1), frac(1, -1), frac(-1, -3), frac(2, 4), frac(-3, 9), frac(part, part), frac(part, 2), frac(part+1, 1), frac(-part-1, 1), frac(1, part+1), frac(0, part),
		frac(-1<<63, 1), frac(1<<63-1, 1), frac(1, 1<<63-1), frac(1, -1<<63), frac(-1<<63, -1<<63), frac(2000000000000000000, 1), frac(3, 2000000000000000000)} {
		if impl.ValidRatio(bad) {
			t.Errorf("%v is not valid", bad)
		}
		x := fineArgs()
		x.r = bad
		wantCodes(t, x, impl.ErrInvalid, "CompareRatios", "StreamOf", "ApplyMoebius")
		x = fineArgs()
		x.q = bad
		wantCodes(t, x, impl.ErrInvalid, "CompareRatios")
	}
	// A ratio that is not valid is ErrInvalid also where it is not from -1 to 1.
	if _, code := impl.StreamOf(frac(4, 2)); code != impl.ErrInvalid {
		t.Errorf("StreamOf 4/2: got %d", code)
	}
	// And a machine that divides by 0 for it is never asked.
	if _, code := impl.ApplyMoebius(machine(1, 0, 1, 2), frac(-4, 2)); code != impl.ErrInvalid {
		t.Errorf("ApplyMoebius of -4/2: got %d", code)
	}
}

func TestPromise1MachinesThatAreNotValid(t *testing.T) {
	const entry = impl.MaxEntry
	for _, m := range []impl.Moebius{machine(0, 0, 0, 1), machine(entry, entry, entry-1, entry), machine(-entry, -entry, 1-entry, entry), machine(2, 2, 0, 2), machine(5, -9, -1, 2)} {
		if !impl.ValidMoebius(m) {
			t.Errorf("%v is valid", m)
		}
	}
	for _, bad := range []impl.Moebius{{}, machine(1, 0, 0, 0), machine(1, 0, 1, 1), machine(1, 0, -1, 1), machine(1, 0, 2, 1), machine(1, 0, -2, 1), machine(1, 0, 0, -1), machine(1, 0, 1, -2), machine(1, 0, -1, -2),
		machine(entry+1, 0, 0, 1), machine(-entry-1, 0, 0, 1), machine(0, entry+1, 0, 1), machine(0, -entry-1, 0, 1), machine(0, 0, 0, entry+1), machine(0, 0, entry, entry), machine(0, 0, entry, entry+1), machine(0, 0, -entry, entry), machine(0, 0, -entry-1, 1),
		machine(-1<<63, 0, 0, 1), machine(0, -1<<63, 0, 1), machine(0, 0, -1<<63, 1), machine(0, 0, -1<<63, 1<<63-1), machine(0, 0, 0, -1<<63), machine(0, 0, 0, 1<<63-1), machine(1<<63-1, 0, 0, 1), machine(0, 1<<63-1, 0, 1)} {
		if impl.ValidMoebius(bad) {
			t.Errorf("%v is not valid", bad)
		}
		x := fineArgs()
		x.m = bad
		for _, n := range []int64{5, -1, 61} {
			x.n = n
			wantCodes(t, x, impl.ErrInvalid, "ApplyMoebius", "ImageOf", "ComposeMoebius", "MoebiusTurns", "MoebiusDigits")
		}
		x = fineArgs()
		x.o = bad
		wantCodes(t, x, impl.ErrInvalid, "ComposeMoebius")
	}
}

func TestPromise1StreamArgumentsOutOfRange(t *testing.T) {
	for name, most := range map[string]int64{"DigitAt": 1000000000, "DigitsOf": impl.MaxAsk, "MoebiusTurns": impl.MaxDigits, "MoebiusDigits": impl.MaxDigits} {
		x := fineArgs()
		for _, n := range []int64{0, most} {
			x.n = n
			wantCodes(t, x, impl.OK, name)
		}
		for _, n := range []int64{-1, most + 1, -1 << 32, 1 << 32, -1 << 63, 1<<63 - 1} {
			x.n = n
			wantCodes(t, x, impl.ErrRange, name)
		}
	}
}

// Lists of digits are ErrInvalid for what is no digit, however long they are, and ErrLimit if they are only too long.
func TestPromise1BeginningsThatAreNotValid(t *testing.T) {
	for _, digit := range []int8{2, -2, 127, -128} {
		for _, length := range []int64{1, 2, 30, 31, 500} {
			for _, at := range []int64{0, length / 2, length - 1} {
				x := fineArgs()
				x.digits = make([]int8, length)
				x.digits[at] = digit
				wantCodes(t, x, impl.ErrInvalid, "BoundsOf")
			}
		}
	}
	for length, code := range map[int]int64{0: impl.OK, 29: impl.OK, 30: impl.OK, 31: impl.ErrLimit, 32: impl.ErrLimit, 63: impl.ErrLimit, 64: impl.ErrLimit, 1000000: impl.ErrLimit} {
		x := fineArgs()
		x.digits = slices.Repeat([]int8{-1}, length)
		if _, _, got := impl.BoundsOf(x.digits); got != code {
			t.Errorf("BoundsOf %d digits: got %d, want %d", length, got, code)
		}
	}
}

// Streams and texts with as many elements as there may be come to an end.
func TestPromise1LongStreamArguments(t *testing.T) {
	long := make([]int8, 500000)
	for _, s := range []impl.Stream{{Head: long, Loop: long}, {Head: long, Loop: []int8{0}}, {Loop: long}} {
		for name, got := range streamCalls(streamArgs{s: s, u: s, m: machine(1, 0, 0, 1)}) {
			named := []string{"DigitAt", "DigitsOf", "ValueOf", "NormalStream", "NegStream", "HalfStream", "CompareStreams", "AverageOf", "MoebiusTurns", "MoebiusDigits"}
			if slices.Contains(named, name) && codeOf(got) != impl.ErrInvalid {
				t.Errorf("%s of a long stream: got %d", name, codeOf(got))
			}
		}
		if impl.ValidStream(s) || !impl.SameStream(s, s) || impl.StreamText(s) != "" {
			t.Error("a long stream is not valid")
		}
	}
	zeros := strings.Repeat("0", 499999)
	for _, text := range []string{zeros + ":" + zeros, ":" + zeros, zeros + ":0", strings.Repeat(":", 1000000), strings.Repeat("\xff", 1000000)} {
		if got, code := impl.ReadStream(text); code != impl.ErrSyntax || len(got.Head)+len(got.Loop) != 0 {
			t.Errorf("ReadStream of a long text: got %d", code)
		}
	}
}
