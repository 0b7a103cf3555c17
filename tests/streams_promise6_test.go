package tests

import (
	"strings"
	"testing"

	"loop.example/g01242/impl"
)

// checkAverage checks AverageOf against the model, and its value.
func checkAverage(t *testing.T, s, u impl.Stream) int64 {
	t.Helper()
	what := "AverageOf " + streamText(s) + " and " + streamText(u)
	want, digits, wantCode := averageOf(s, u)
	got, code := impl.AverageOf(s, u)
	wantStream(t, what, got, code, want, wantCode)
	sum := plus(valueOf(s), valueOf(u))
	if code == impl.OK {
		value, valueCode := impl.ValueOf(got)
		wantRatio(t, "the value of "+what, value, valueCode, times(sum, rat(1, 2)))
		return code
	}
	// Also where there is no stream, the digits tell half the sum: the model is right.
	if off := minus(times(sum, rat(1, 2)), sumOf(digits[:40])); off.Abs(off).Cmp(half(40)) > 0 {
		t.Errorf("%s: the digits %s tell another number", what, textOf(digits[:40]))
	}
	return code
}

func TestPromise6AveragesHaveTheAverageOfBothValues(t *testing.T) {
	met := tally{}
	list := smallStreams(2, 2)
	for _, s := range list {
		for _, u := range list {
			met[checkAverage(t, s, u)]++
		}
	}
	list = someStreams()
	for i, s := range list {
		for j := range 4 {
			met[checkAverage(t, s, list[(i*(13+j)+7*j)%len(list)])]++
		}
	}
	met.want(t, impl.OK, 20000)
	met.want(t, impl.ErrLimit, 300)
}

// Both streams may change places, and the average of a stream and its opposite is 0, for any loops.
func TestPromise6AveragesOfPairs(t *testing.T) {
	list := someStreams()
	for i, s := range list {
		u := list[(i*29+1)%len(list)]
		x, one := impl.AverageOf(s, u)
		y, two := impl.AverageOf(u, s)
		wantStream(t, "AverageOf the other way around, of "+streamText(s)+" and "+streamText(u), y, two, x, one)
		neg, _ := impl.NegStream(s)
		zero, code := impl.AverageOf(s, neg)
		wantStream(t, "AverageOf "+streamText(s)+" and its opposite", zero, code, stream(":0"), impl.OK)
	}
}

// Loops of 14 and 13 digits have 182 together: there is a stream only where what they tell together is simpler.
func TestPromise6AveragesOfLongLoops(t *testing.T) {
	fourteen, thirteen := strings.Repeat("+", 14), strings.Repeat("-", 13)
	for _, row := range []struct {
		s, u, want string
		code       int64
	}{
		{":" + fourteen, ":" + thirteen, ":0", impl.OK},
		{":0" + fourteen[1:], ":" + thirteen, ":0-000000000000", impl.OK},
		{":0" + fourteen[1:], ":0" + thirteen[1:], ":", impl.ErrLimit},
		{":" + strings.Repeat("+0", 7), ":" + strings.Repeat("0-", 7), "0:+-", impl.OK},
		{":" + strings.Repeat("+0", 7), ":0000000000000", ":0+", impl.OK},
		{":+0", ":0+00000", ":+00-0+0++00+0+", impl.OK},
		{":+00", ":0+00000", ":", impl.ErrLimit},
		{":+000000000000", ":00", ":0+00000000000", impl.OK},
		{":+", ":+", ":+", impl.OK},
		{":+", ":0", "+:0", impl.OK},
		{":-", ":0", "-:0", impl.OK},
	} {
		s, u := stream(row.s), stream(row.u)
		got, code := impl.AverageOf(s, u)
		wantStream(t, "AverageOf "+row.s+" and "+row.u, got, code, stream(row.want), row.code)
		checkAverage(t, s, u)
	}
}

// What is carried can make the first time around a loop tell other digits than all that follow. Here -1 and -1 come 13
// times behind 1 and 1: with 2 being carried, 0 is told until 0 and 0 come; from there on -1 is. The head becomes longer
// by 13 digits, and is too long at last.
func TestPromise6AveragesThatBeginToRepeatLate(t *testing.T) {
	for zeros := range 5 {
		ahead := strings.Repeat("0", zeros)
		s := stream(ahead + "+:-------------0")
		want, wantCode := stream(ahead+"0000000000000+:0-------------"), int64(impl.OK)
		if zeros > 2 {
			want, wantCode = impl.Stream{}, impl.ErrLimit
		}
		got, code := impl.AverageOf(s, s)
		wantStream(t, "AverageOf "+streamText(s)+" and itself", got, code, want, wantCode)
		checkAverage(t, s, s)
	}
}
