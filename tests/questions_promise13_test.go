package tests

import (
	"fmt"
	"math/big"
	"slices"
	"testing"

	"loop.example/g01242/impl"
)

// someCounts are counts of digits that are told.
var someCounts = []int{0, 1, 2, 3, 7, 20, 59, impl.MaxDigits}

// fewStreams returns some streams, with and without a Head.
func fewStreams(d *draw) []impl.Stream {
	return []impl.Stream{stream(":0"), stream(":+"), stream(":-"), stream("+:-"), stream(":+0-"), d.stream(), d.stream(), d.stream()}
}

func TestPromise13TreesTellWhatTheRulesTell(t *testing.T) {
	met := tally{}
	d := draw(1313)
	for _, x := range someTrees() {
		for _, s := range fewStreams(&d) {
			for _, n := range someCounts {
				what := fmt.Sprint("RunTree ", short(x), " of ", streamText(s), ", ", n)
				told, asked, code := impl.RunTree(x, s, int64(n))
				met[code]++
				want, count, ok := follow(x, unrolled(s, 400), n)
				if !ok {
					wantTermCode(t, what, code, impl.ErrBudget)
					continue
				}
				if code != impl.OK || !slices.Equal(told, want) || asked != int64(count) {
					t.Errorf("%s: got %s of %d with %d, want %s of %d", what, textOf(told), asked, code, textOf(want), count)
				}
			}
		}
	}
	met.want(t, impl.OK, 20000)
	met.want(t, impl.ErrBudget, 2000)
}

// Streams that begin with the digits that are asked for are told the same, however they go on.
func TestPromise13WhatIsToldHangsOnWhatIsAsked(t *testing.T) {
	checked := 0
	d := draw(131)
	for _, x := range someTrees() {
		for _, s := range fewStreams(&d) {
			told, asked, code := impl.RunTree(x, s, 5)
			if code != impl.OK || asked > impl.MaxHead {
				continue
			}
			for _, loop := range []string{"-", "0", "+", "+--0"} {
				other := impl.Stream{Head: unrolled(s, int(asked)), Loop: digitList(loop)}
				got, gotAsked, code := impl.RunTree(x, other, 5)
				if code != impl.OK || gotAsked != asked || !slices.Equal(got, told) {
					t.Errorf("RunTree %s: of %s it tells %s with %d asked for, and of %s %s with %d", short(x), streamText(s), textOf(told), asked, streamText(other), textOf(got), gotAsked)
				}
				checked++
			}
		}
	}
	if checked < 5000 {
		t.Errorf("%d streams were tried only", checked)
	}
}

func TestPromise13DigitsThatHaveBeenToldNeverChange(t *testing.T) {
	d := draw(1310)
	for _, x := range someTrees() {
		s := d.stream()
		all, most, code := impl.RunTree(x, s, impl.MaxDigits)
		n := int64(impl.MaxDigits)
		for code != impl.OK {
			n--
			all, most, code = impl.RunTree(x, s, n)
		}
		for ; n >= 0; n -= 1 + d.below(9) {
			told, asked, code := impl.RunTree(x, s, n)
			if code != impl.OK || int64(len(told)) != n || !slices.Equal(told, all[:n]) || asked > most {
				t.Errorf("RunTree %s of %s, %d: got %s with %d asked for and %d, want the first ones of %s", short(x), streamText(s), n, textOf(told), asked, code, textOf(all))
			}
			most = asked
		}
	}
}

func TestPromise13TreesAreProductiveIfNoWayAsksForEver(t *testing.T) {
	counts := map[bool]int{}
	for _, x := range someTrees() {
		want := isFruitful(x)
		got, code := impl.IsProductive(x)
		if got != want || code != impl.OK {
			t.Errorf("IsProductive %s: got %v with %d", short(x), got, code)
		}
		counts[want]++
		if !want {
			continue
		}
		// Then each stream is told digits of, as many as may be asked for.
		for _, text := range []string{":0", ":+", ":-", ":+0-"} {
			if _, _, code := impl.RunTree(x, stream(text), 6); code != impl.OK {
				t.Errorf("RunTree %s of %s: got %d, though it is productive", short(x), text, code)
			}
		}
	}
	if counts[true] < 300 || counts[false] < 200 {
		t.Errorf("few trees were productive, or not: %v", counts)
	}
}

// treeMachines returns machines with few states, with many, and with numbers that grow without end.
func treeMachines() []impl.Moebius {
	var list []impl.Moebius
	for _, r := range someRuns() {
		list = append(list, r.m)
	}
	for div := int64(1); div <= 24; div++ {
		for a := -div; a <= div; a += 1 + div/6 {
			for b := -div; b <= div; b += 1 + div/5 {
				list = append(list, machine(a, b, 0, div), machine(3*a, 3*b, 0, 3*div))
			}
		}
	}
	// These have 59 to 63 states.
	for b := int64(-1); b <= 1; b++ {
		list = append(list, machine(-3, b, 0, 23), machine(-9, b, 0, 17), machine(-16, b, 0, 21), machine(9, b, 0, 10), machine(-18, b, 0, 20))
	}
	d := draw(137)
	for range 100 {
		m := d.machine()
		m.C = 0
		list = append(list, d.machine(), m, machine(d.below(9)-4, d.below(9)-4, d.below(7)-3, 4))
	}
	return slices.DeleteFunc(list, func(m impl.Moebius) bool { return !impl.ValidMoebius(m) })
}

func TestPromise13TreesOfMachinesHaveTheirStates(t *testing.T) {
	met := tally{}
	sizes := map[int]bool{}
	for _, m := range treeMachines() {
		want, states, wantCode := machineTree(m)
		got, code := impl.MoebiusTree(m)
		met[code]++
		sizes[states] = true
		wantTree(t, fmt.Sprint("MoebiusTree ", m), got, code, want, wantCode)
		if code != impl.OK {
			continue
		}
		if productive, code := impl.IsProductive(got); !productive || code != impl.OK || !impl.ValidTree(got) {
			t.Errorf("MoebiusTree %v: %s is not productive", m, short(got))
		}
		if reached, code := impl.ReachedTree(got); code != impl.OK || !impl.SameTree(reached, got) {
			t.Errorf("MoebiusTree %v: %s has nodes that are not reached in order", m, short(got))
		}
	}
	met.want(t, impl.OK, 500)
	met.want(t, impl.ErrState, 100)
	met.want(t, impl.ErrLimit, 300)
	for _, size := range []int{1, 2, 3, 4, 59, 60, 61, 62} {
		if !sizes[size] {
			t.Errorf("no machine had %d states", size)
		}
	}
}

func TestPromise13TreesOfMachinesTellWhatTheMachinesTell(t *testing.T) {
	checked := 0
	d := draw(1300)
	for _, m := range treeMachines() {
		x, code := impl.MoebiusTree(m)
		if code != impl.OK {
			continue
		}
		for _, s := range fewStreams(&d) {
			for _, n := range []int64{0, 1, 2, 9, impl.MaxDigits} {
				want, taken, code := impl.MoebiusDigits(m, s, n)
				told, asked, treeCode := impl.RunTree(x, s, n)
				if code != impl.OK || treeCode != impl.OK || !slices.Equal(told, want) || asked != taken {
					t.Errorf("the tree of %v tells %s of %s, with %d asked for and %d; the machine tells %s with %d and %d", m, textOf(told), streamText(s), asked, treeCode, textOf(want), taken, code)
				}
				checked++
			}
			// And these are digits of what the map makes of the value.
			told, _, _ := impl.RunTree(x, s, impl.MaxDigits)
			off := minus(machineOf(m).at(valueOf(s)), sumOf(told))
			if off.Abs(off).Cmp(half(impl.MaxDigits)) > 0 {
				t.Errorf("the tree of %v tells %s of %s, which is not the value", m, textOf(told), streamText(s))
			}
		}
	}
	if checked < 20000 {
		t.Errorf("%d runs were tried only", checked)
	}
}

func TestPromise13TreesThatAreGiven(t *testing.T) {
	wantTree(t, "EchoTree", impl.EchoTree(), impl.OK, tree("? 1 2 3, - 0, 0 0, + 0"), impl.OK)
	wantTree(t, "NegTree", impl.NegTree(), impl.OK, tree("? 1 2 3, + 0, 0 0, - 0"), impl.OK)
	wantTree(t, "HalfTree", impl.HalfTree(), impl.OK, tree("0 1, ? 2 3 4, - 1, 0 1, + 1"), impl.OK)
	for _, s := range someStreams() {
		digits := unrolled(s, 60)
		for _, n := range []int64{0, 1, 2, 37, impl.MaxDigits} {
			for name, x := range map[string]impl.Tree{"EchoTree": impl.EchoTree(), "NegTree": impl.NegTree(), "HalfTree": impl.HalfTree()} {
				want, asked := slices.Clone(digits[:n]), n
				switch {
				case name == "NegTree":
					for i := range want {
						want[i] = -want[i]
					}
				case name == "HalfTree" && n > 0:
					want, asked = append([]int8{0}, digits[:n-1]...), n-1
				}
				if told, got, code := impl.RunTree(x, s, n); !slices.Equal(told, want) || got != asked || code != impl.OK {
					t.Errorf("RunTree %s of %s: got %s with %d asked for and %d, want %s with %d", name, streamText(s), textOf(told), got, code, textOf(want), asked)
				}
			}
		}
	}
}

func TestPromise13TreesOfStreamsTellTheirDigits(t *testing.T) {
	for _, s := range someStreams() {
		text := streamText(s)
		x, code := impl.StreamTree(s)
		wantTree(t, "StreamTree "+text, x, code, telling(append(slices.Clone(s.Head), s.Loop...), len(s.Head)), impl.OK)
		told, asked, code := impl.RunTree(x, stream(":0+-"), impl.MaxDigits)
		if !slices.Equal(told, unrolled(s, impl.MaxDigits)) || asked != 0 || code != impl.OK {
			t.Errorf("RunTree of StreamTree %s: got %s with %d asked for and %d", text, textOf(told), asked, code)
		}
		normal, _ := impl.NormalStream(s)
		constant, code := impl.ConstantOf(x)
		wantStream(t, "ConstantOf StreamTree "+text, constant, code, normal, impl.OK)
	}
}

// Of what a stream has as its value, trees of machines make what ApplyMoebius makes of it.
func TestPromise13TreesOfMachinesKeepRatios(t *testing.T) {
	for _, m := range []impl.Moebius{machine(1, 1, 0, 2), machine(-2, 1, 0, 3), machine(1, 0, 0, 4), machine(3, -1, 0, 5), machine(0, 2, 0, 7)} {
		x, code := impl.MoebiusTree(m)
		if code != impl.OK {
			t.Fatalf("MoebiusTree %v: got %d", m, code)
		}
		for _, r := range []impl.Ratio{frac(0, 1), frac(1, 1), frac(-1, 1), frac(1, 3), frac(-2, 5), frac(3, 8)} {
			s, _ := impl.StreamOf(r)
			value, _ := impl.ApplyMoebius(m, r)
			told, _, code := impl.RunTree(x, s, impl.MaxDigits)
			off := new(big.Rat).Abs(minus(ratOf(value), sumOf(told)))
			if code != impl.OK || off.Cmp(half(impl.MaxDigits)) > 0 {
				t.Errorf("the tree of %v tells %s of %v, want %v", m, textOf(told), r, value)
			}
		}
	}
}
