package tests

import (
	"fmt"
	"math/big"
	"slices"
	"testing"

	"loop.example/g01242/impl"
)

func machine(a, b, c, d int64) impl.Moebius { return impl.Moebius{A: a, B: b, C: c, D: d} }

// machineRun is a machine and a stream on which it runs.
type machineRun struct {
	m impl.Moebius
	s impl.Stream
}

func (r machineRun) String() string { return fmt.Sprint(r.m, " of ", streamText(r.s)) }

// someRuns returns machines whose values are from -1 to 1: listed ones, and drawn ones, each with some streams.
func someRuns() []machineRun {
	machines := []impl.Moebius{
		machine(1, 0, 0, 1), machine(-1, 0, 0, 1), machine(7, 0, 0, 7), machine(1, 1, 0, 2), machine(-1, -1, 0, 2), machine(1, 0, 0, 1000000),
		machine(0, 0, 0, 1), machine(0, 1, 0, 1), machine(0, -1, 0, 1), machine(0, 1, 0, 2), machine(0, -1, 0, 2), machine(0, 1, 0, 3), machine(2, 4, 3, 6),
		machine(1, 0, 1, 2), machine(1, 0, -1, 2), machine(-1, 0, 1, 2), machine(2, -1, -1, 2), machine(2, 1, 1, 2), machine(0, 1, 1, 2), machine(0, -1, 1, 2), machine(0, 1, -1, 2),
		machine(1000000, 999999, 999999, 1000000), machine(1000000, -999999, -999999, 1000000), machine(0, 1, 999999, 1000000), machine(500000, 499999, 999999, 1000000),
		machine(46361, 46361, 524288, 524290), machine(-140617, -140619, 524288, 524290), machine(1, 1, 1, 3), machine(3, 1, 0, 4), machine(-3, 1, 0, 4), machine(5, 0, 0, 6),
	}
	streams := []impl.Stream{stream(":0"), stream(":+"), stream(":-"), stream(":0+"), stream("+:-"), stream("0:+-"), stream("+0-:0-+0+"), stream("0++0:0--")}
	d := draw(707)
	var list []machineRun
	for _, m := range machines {
		for _, s := range append(streams, d.stream()) {
			list = append(list, machineRun{m, s})
		}
	}
	for range 300 {
		m := d.machine()
		list = append(list, machineRun{m, d.stream()}, machineRun{m, streams[d.below(int64(len(streams)))]})
	}
	return list
}

// longest returns the turns for the most digits for which there are some, how many these are, and the code behind them.
func longest(r machineRun) ([]impl.Turn, int64, int64) {
	code := int64(impl.OK)
	for n := int64(impl.MaxDigits); ; n-- {
		turns, got := impl.MoebiusTurns(r.m, r.s, n)
		if got == impl.OK {
			return turns, n, code
		}
		code = got
	}
}

func TestPromise7MachinesDoWhatTheRulesTell(t *testing.T) {
	met := tally{}
	for i, r := range someRuns() {
		for _, n := range []int64{impl.MaxDigits, int64(i % impl.MaxDigits)} {
			want, wantCode := turnsOf(r.m, r.s, n)
			got, code := impl.MoebiusTurns(r.m, r.s, n)
			met[code]++
			if code != wantCode || !slices.Equal(got, want) {
				t.Fatalf("MoebiusTurns %v, %d: got %v with %d, want %v with %d", r, n, got, code, want, wantCode)
			}
			var digits []int8
			for _, turn := range want {
				if turn.Told {
					digits = append(digits, turn.Digit)
				}
			}
			told, taken, code := impl.MoebiusDigits(r.m, r.s, n)
			if code != wantCode || !slices.Equal(told, digits) || taken != int64(len(want)-len(digits)) {
				t.Errorf("MoebiusDigits %v, %d: got %s and %d with %d, want %s with %d", r, n, textOf(told), taken, code, textOf(digits), wantCode)
			}
		}
	}
	met.want(t, impl.OK, 500)
	met.want(t, impl.ErrLimit, 200)
}

func TestPromise7DigitsTellWhatTheMapMakes(t *testing.T) {
	for _, r := range someRuns() {
		x := valueOf(r.s)
		y := machineOf(r.m).at(x)
		ratio, _ := ratioOf(x)
		value, code := impl.ApplyMoebius(r.m, ratio)
		wantRatio(t, fmt.Sprint("ApplyMoebius of the value, ", r), value, code, y)
		turns, _, _ := longest(r)
		for i, turn := range turns {
			// What is left to tell is what the state makes of what is left to take.
			digit, rest := rat(int64(turn.Digit), 1), &x
			if turn.Told {
				rest = &y
			}
			*rest = minus(plus(*rest, *rest), digit)
			state := machineOf(turn.State)
			if state.at(x).Cmp(y) != 0 || !state.isFrom(-2, 2) || state.divided().state() != turn.State {
				t.Fatalf("MoebiusTurns %v: the state %v of the turn %d has lost the value", r, turn.State, i)
			}
		}
		told, taken, _ := impl.MoebiusDigits(r.m, r.s, int64(len(turns)/3))
		off := minus(machineOf(r.m).at(valueOf(r.s)), sumOf(told))
		if off.Abs(off).Cmp(half(len(told))) > 0 || len(told) != len(turns)/3 {
			t.Errorf("MoebiusDigits %v: %s, of %d digits, does not tell the value", r, textOf(told), taken)
		}
	}
}

func TestPromise7DigitsThatHaveBeenToldNeverChange(t *testing.T) {
	ends := 0
	for i, r := range someRuns() {
		all, most, last := longest(r)
		if last != impl.OK && last != impl.ErrLimit {
			t.Errorf("MoebiusTurns %v: got %d", r, last)
		}
		ends += int(last)
		for n := most; n >= 0; n -= int64(1 + i%7) {
			turns, code := impl.MoebiusTurns(r.m, r.s, n)
			if code != impl.OK || len(turns) > len(all) || !slices.Equal(turns, all[:len(turns)]) || n > 0 && !turns[len(turns)-1].Told {
				t.Fatalf("MoebiusTurns %v, %d: got %v with %d, which all turns %v do not begin with", r, n, turns, code, all)
			}
		}
	}
	if ends == 0 {
		t.Error("no machine has come to a limit")
	}
}

// Streams that begin with the digits that are taken are told the same, however they go on.
func TestPromise7DigitsHangOnWhatIsTaken(t *testing.T) {
	checked := 0
	for _, r := range someRuns() {
		for n := range int64(14) {
			told, taken, code := impl.MoebiusDigits(r.m, r.s, n)
			if code != impl.OK || taken > impl.MaxHead {
				continue
			}
			for _, loop := range []string{"-", "0", "+", "+--0"} {
				other := impl.Stream{Head: unrolled(r.s, int(taken)), Loop: digitList(loop)}
				got, gotTaken, code := impl.MoebiusDigits(r.m, other, n)
				if code != impl.OK || gotTaken != taken || !slices.Equal(got, told) {
					t.Errorf("MoebiusDigits %v, %d: got %s of %d digits, and of %s %s of %d", r, n, textOf(told), taken, streamText(other), textOf(got), gotTaken)
				}
				checked++
			}
		}
	}
	if checked < 10000 {
		t.Errorf("%d streams were tried only", checked)
	}
}

// A machine tells digits of values that lie near each other, at the latest, when what it has taken leaves them a half
// apart: so 60 digits never need MaxAsk, not even of the steepest machine, which makes differences at most 2 to the power
// 21 times as great. ErrLimit is met ahead of ErrBudget always.
func TestPromise7MachinesTakeFewDigits(t *testing.T) {
	d := draw(82)
	var steep []impl.Moebius
	for size := int64(1); size < impl.MaxEntry; size = 2*size + d.below(2) {
		for _, c := range []int64{size, -size} {
			for _, ends := range [][2]int64{{1, 1}, {1, -1}, {-1, 1}, {-1, -1}, {0, 1}, {0, -1}} {
				far, near := ends[0]*(2*size+1), ends[1]
				if c < 0 {
					far, near = near, far
				}
				if (far+near)%2 == 0 {
					steep = append(steep, machine((far-near)/2, (far+near)/2, c, size+1))
				}
			}
		}
	}
	steep = append(steep, machine(46361, 46361, 524288, 524290), machine(262144, 262144, 524288, 524290), machine(1, 0, 0, 1))
	most := int64(0)
	for _, m := range steep {
		if !impl.ValidMoebius(m) {
			t.Fatalf("%v is valid", m)
		}
		for _, text := range []string{":0", ":+", ":-", ":+-", "-:+", "+:-", ":+0", ":-0", ":--+", "----------------:+", "++++++++++++++++:-"} {
			r := machineRun{m, stream(text)}
			turns, n, code := longest(r)
			if code != impl.OK && code != impl.ErrLimit {
				t.Errorf("%v: got %d", r, code)
			}
			most = max(most, int64(len(turns))-n)
		}
	}
	if most < 70 || most > 82 {
		t.Errorf("%d digits were taken", most)
	}
}

func TestPromise7ImagesHaveAllValues(t *testing.T) {
	for _, r := range someRuns() {
		// What is not from -1 to 1 has an image as well.
		for _, m := range []impl.Moebius{r.m, machine(r.m.B, r.m.A, r.m.C, r.m.D), machine(r.m.D, r.m.A, r.m.C, r.m.D)} {
			low, high, code := impl.ImageOf(m)
			least, most := machineOf(m).at(rat(-1, 1)), machineOf(m).at(rat(1, 1))
			if least.Cmp(most) > 0 {
				least, most = most, least
			}
			wantRatio(t, fmt.Sprint("ImageOf (least) ", m), low, code, least)
			wantRatio(t, fmt.Sprint("ImageOf (greatest) ", m), high, code, most)
			for p := int64(-8); p <= 8; p++ {
				x, _ := ratioOf(rat(p, 8))
				v := machineOf(m).at(rat(p, 8))
				value, code := impl.ApplyMoebius(m, x)
				wantRatio(t, fmt.Sprint("ApplyMoebius ", m, x), value, code, v)
				if v.Cmp(least) < 0 || v.Cmp(most) > 0 {
					t.Errorf("ImageOf %v: got %v to %v, without %v", m, low, high, v)
				}
			}
		}
	}
}

func TestPromise7ComposedMachinesDoBoth(t *testing.T) {
	met := tally{}
	d := draw(11)
	runs := someRuns()
	for i := range 4000 {
		m, n := runs[d.below(int64(len(runs)))].m, runs[d.below(int64(len(runs)))].m
		if i%2 == 0 {
			// Small ones, whose values go anywhere.
			m = machine(d.below(9)-4, d.below(9)-4, d.below(7)-3, 4)
			n = machine(d.below(19)-9, d.below(19)-9, d.below(3)-1, 2)
		}
		want, wantCode := composed(m, n)
		got, code := impl.ComposeMoebius(m, n)
		met[code]++
		if got != want || code != wantCode {
			t.Errorf("ComposeMoebius %v and %v: got %v with %d, want %v with %d", m, n, got, code, want, wantCode)
		}
		if code != impl.OK {
			continue
		}
		if !impl.ValidMoebius(got) {
			t.Errorf("ComposeMoebius %v and %v: %v is not valid", m, n, got)
		}
		for _, x := range []*big.Rat{rat(-1, 1), rat(0, 1), rat(1, 3), rat(1, 1)} {
			between := machineOf(n).at(x)
			if machineOf(m).at(between).Cmp(machineOf(got).at(x)) != 0 {
				t.Errorf("ComposeMoebius %v and %v: %v makes another value of %s", m, n, got, x.RatString())
			}
		}
	}
	for _, code := range []int64{impl.OK, impl.ErrState, impl.ErrLimit} {
		met.want(t, code, 300)
	}
}
