package tests

import (
	"fmt"
	"slices"
	"strings"
	"testing"

	"loop.example/g01242/impl"
)

// The example of the chapter, as the document tells it.
func TestQuestionsExample(t *testing.T) {
	told, asked, code := impl.RunTree(impl.EchoTree(), stream(":+0"), 3)
	if !slices.Equal(told, []int8{1, 0, 1}) || asked != 3 || code != impl.OK {
		t.Errorf("RunTree: got %v and %d with %d", told, asked, code)
	}
	if most, code := impl.MostAsked(impl.HalfTree(), 3); most != 2 || code != impl.OK {
		t.Errorf("MostAsked: got %d with %d", most, code)
	}
	if mean, code := impl.MeanOf(impl.EchoTree(), 2); mean != frac(0, 1) || code != impl.OK {
		t.Errorf("MeanOf: got %v with %d", mean, code)
	}
	both, code := impl.ComposeTrees(impl.NegTree(), impl.NegTree())
	if same, sameCode := impl.DoTheSame(both, impl.EchoTree()); !same || code != impl.OK || sameCode != impl.OK {
		t.Errorf("ComposeTrees: got %s with %d and %d", short(both), code, sameCode)
	}
	x, code := impl.MoebiusTree(machine(1, 1, 0, 2))
	wantTree(t, "MoebiusTree", x, code, tree("+ 1, ? 2 3 0, - 1, 0 1"), impl.OK)
	long, _ := impl.StreamTree(stream("+:0+0+"))
	least, code := impl.LeastTree(long)
	wantTree(t, "LeastTree", least, code, tree("+ 1, 0 0"), impl.OK)
}

func TestQuestionsRunsAtMaxAsk(t *testing.T) {
	for _, row := range []struct {
		x        impl.Tree
		n, asked int64
		code     int64
	}{
		{waiting(40), 10, 400, impl.OK}, {waiting(40), 11, 0, impl.ErrBudget}, {waiting(50), 8, 400, impl.OK}, {waiting(50), 9, 0, impl.ErrBudget},
		{waiting(59), 6, 354, impl.OK}, {waiting(59), 7, 0, impl.ErrBudget}, {waiting(7), 57, 399, impl.OK}, {waiting(7), 58, 0, impl.ErrBudget},
		{waiting(6), impl.MaxDigits, 360, impl.OK}, {waiting(7), impl.MaxDigits, 0, impl.ErrBudget}, {waiting(0), impl.MaxDigits, 0, impl.OK}, {waiting(1), impl.MaxDigits, 60, impl.OK},
		// Nothing is asked for behind the last digit, nor for none.
		{tree("+ 1, ? 1 1 1"), 1, 0, impl.OK}, {tree("+ 1, ? 1 1 1"), 2, 0, impl.ErrBudget}, {tree("? 0 0 0"), 0, 0, impl.OK}, {tree("? 0 0 0"), 1, 0, impl.ErrBudget},
		{tree("? 1 0 0, ? 1 1 1"), 0, 0, impl.OK}, {impl.EchoTree(), 0, 0, impl.OK}, {impl.HalfTree(), 1, 0, impl.OK}, {impl.HalfTree(), 2, 1, impl.OK},
	} {
		for _, text := range []string{":0", ":+", "+-0:-", "++++++++++++++++:0+-"} {
			told, asked, code := impl.RunTree(row.x, stream(text), row.n)
			if asked != row.asked || code != row.code || code == impl.OK && int64(len(told)) != row.n {
				t.Errorf("RunTree %s of %s, %d: got %s of %d with %d, want %d with %d", short(row.x), text, row.n, textOf(told), asked, code, row.asked, row.code)
			}
		}
	}
	// Only of some streams too much is asked for.
	x := tree("? 0 1 1, + 0")
	for _, row := range []struct {
		text string
		n    int64
		code int64
	}{
		{":-", 1, impl.ErrBudget}, {":0", impl.MaxDigits, impl.OK}, {":-----0", impl.MaxDigits, impl.OK}, {":------0", 57, impl.OK}, {":------0", 58, impl.ErrBudget},
		{"----------------:-------------0", 27, impl.OK}, {"----------------:-------------0", 28, impl.ErrBudget},
	} {
		if _, _, code := impl.RunTree(x, stream(row.text), row.n); code != row.code {
			t.Errorf("RunTree %s of %s, %d: got %d, want %d", short(x), row.text, row.n, code, row.code)
		}
	}
}

func TestQuestionsCountsByHand(t *testing.T) {
	for _, row := range []struct {
		x           impl.Tree
		n           int64
		least, most int64
	}{
		{impl.EchoTree(), 0, 0, 0}, {impl.EchoTree(), 1, 1, 1}, {impl.EchoTree(), impl.MaxDigits, 60, 60}, {impl.HalfTree(), 0, 0, 0}, {impl.HalfTree(), 1, 0, 0}, {impl.HalfTree(), impl.MaxDigits, 59, 59},
		{tree("+ 0"), impl.MaxDigits, 0, 0}, {waiting(59), impl.MaxDigits, 3540, 3540}, {waiting(59), 1, 59, 59},
		{tree("? 1 2 2, + 0, ? 1 1 1"), 1, 1, 2}, {tree("? 2 1 2, + 0, ? 1 1 1"), 2, 2, 4}, {tree("? 2 2 1, + 0, ? 1 1 1"), impl.MaxDigits, 60, 120},
		// The way that asks for the least at first asks for more behind it.
		{tree("? 1 3 3, + 2, ? 6 6 6, ? 4 4 4, + 5, + 5, ? 7 7 7, ? 8 8 8, ? 4 4 4"), 1, 1, 2}, {tree("? 1 3 3, + 2, ? 6 6 6, ? 4 4 4, + 5, + 5, ? 7 7 7, ? 8 8 8, ? 4 4 4"), 2, 2, 5},
		{spine(12, false), 1, 1, 12}, {spine(12, false), 5, 1, 60}, {spine(12, true), impl.MaxDigits, 1, 721},
		// What is not reached, and asks for ever, is nothing to it.
		{tree("+ 2, ? 1 1 1, ? 0 0 0"), 3, 2, 2},
	} {
		least, one := impl.LeastAsked(row.x, row.n)
		most, two := impl.MostAsked(row.x, row.n)
		if least != row.least || most != row.most || one != impl.OK || two != impl.OK {
			t.Errorf("LeastAsked and MostAsked of %s, %d: got %d and %d with %d and %d, want %d and %d", short(row.x), row.n, least, most, one, two, row.least, row.most)
		}
	}
}

func TestQuestionsProductiveByHand(t *testing.T) {
	for text, want := range map[string]bool{
		"+ 0": true, "? 0 0 0": false, "? 0 1 1, + 0": false, "? 1 0 1, + 0": false, "? 1 1 0, + 0": false, "? 1 1 1, + 0": true, "? 1 1 1, + 1": true, "+ 1, ? 1 0 0": false, "+ 1, ? 0 0 0": true,
		// For ever by nodes that are not the first one, by more than one, and by some that are not reached.
		"? 1 1 1, ? 2 2 2, ? 3 3 1, + 0": false, "? 1 1 1, ? 2 2 2, ? 3 3 0, + 0": false, "? 1 1 1, ? 2 2 2, ? 3 3 3, + 0": true, "+ 0, ? 1 1 1": true, "? 3 3 3, ? 2 2 2, ? 1 1 1, + 3": true, "? 3 3 3, ? 2 2 2, ? 1 1 1, + 2": false,
		"+ 1, - 2, 0 3, + 4, ? 4 0 0": false, "+ 1, - 2, 0 3, + 4, ? 3 0 0": true,
	} {
		if got, code := impl.IsProductive(tree(text)); got != want || code != impl.OK {
			t.Errorf("IsProductive %s: got %v with %d", text, got, code)
		}
	}
	for _, asked := range []int{1, 58, 59} {
		x := waiting(asked)
		if got, code := impl.IsProductive(x); !got || code != impl.OK {
			t.Errorf("IsProductive of %d nodes that ask: got %v with %d", asked, got, code)
		}
		// The same with the nodes in the opposite order, the first one aside.
		back := impl.Tree{Nodes: make([]impl.Fork, asked+1)}
		turned := func(node int16) int16 { return (int16(asked) + 1 - node) % int16(asked+1) }
		for i, f := range x.Nodes {
			for k := range waysFrom(f) {
				f.Next[k] = turned(f.Next[k])
			}
			back.Nodes[turned(int16(i))] = f
		}
		if got, code := impl.IsProductive(back); !got || code != impl.OK {
			t.Errorf("IsProductive of %s: got %v with %d", short(back), got, code)
		}
	}
}

func TestQuestionsTablesByHand(t *testing.T) {
	for _, row := range []struct {
		x    impl.Tree
		n    int64
		want string
	}{
		{impl.HalfTree(), 0, ":"}, {impl.HalfTree(), 1, ":0"}, {impl.HalfTree(), 2, "-:0- 0:00 +:0+"}, {impl.NegTree(), 1, "-:+ 0:0 +:-"}, {tree("+ 1, - 0"), impl.MaxTold, ":+-+-+-+-+-+-+-+-+-+-"},
		{impl.NegTree(), 2, "--:++ -0:+0 -+:+- 0-:0+ 00:00 0+:0- +-:-+ +0:-0 ++:--"}, {tree("? 1 2 1, + 0, ? 1 3 1, - 3"), 1, "-:+ 0-:+ 00:- 0+:+ +:+"},
		{tree("? 2 1 2, ? 2 2 2, - 2"), 2, "-:-- 0-:-- 00:-- 0+:-- +:--"}, {tree("? 0 0 0"), -1, ""},
	} {
		rows, code := impl.TableOf(row.x, row.n)
		if rowsText(rows) != row.want || (code == impl.OK) != (row.want != "") {
			t.Errorf("TableOf %s, %d: got %s with %d, want %s", short(row.x), row.n, rowsText(rows), code, row.want)
		}
	}
}

func TestQuestionsTablesAtTheirLimits(t *testing.T) {
	for _, row := range []struct {
		x          impl.Tree
		n          int64
		rows, code int64
	}{
		{impl.EchoTree(), 6, impl.MaxRows, impl.OK}, {impl.EchoTree(), 7, 0, impl.ErrLimit}, {impl.EchoTree(), impl.MaxTold, 0, impl.ErrLimit}, {impl.HalfTree(), 7, impl.MaxRows, impl.OK}, {impl.HalfTree(), 8, 0, impl.ErrLimit},
		{waiting(6), 1, impl.MaxRows, impl.OK}, {waiting(6), 2, 0, impl.ErrLimit}, {waiting(7), 1, 0, impl.ErrLimit}, {waiting(59), 1, 0, impl.ErrLimit}, {waiting(59), impl.MaxTold, 0, impl.ErrLimit}, {waiting(59), 0, 1, impl.OK},
		// 364 nodes that ask, one behind the other, have MaxRows rows, and with one more there are two more rows.
		{spine(52, false), 7, impl.MaxRows, impl.OK}, {spine(52, true), 7, 0, impl.ErrLimit}, {spine(52, false), 8, 0, impl.ErrLimit}, {spine(26, false), 14, impl.MaxRows, impl.OK}, {spine(26, true), 14, 0, impl.ErrLimit},
		{tree("+ 0"), impl.MaxTold, 1, impl.OK}, {spine(18, false), impl.MaxTold, 721, impl.OK}, {spine(18, true), impl.MaxTold, 723, impl.OK},
	} {
		rows, code := impl.TableOf(row.x, row.n)
		if int64(len(rows)) != row.rows || code != row.code {
			t.Errorf("TableOf %s, %d: got %d rows with %d, want %d with %d", short(row.x), row.n, len(rows), code, row.rows, row.code)
		}
	}
}

// far returns a tree that, for -1 so many times, tells 0 until its last digit, which is 1; and otherwise only 0.
func far(asked, told int) impl.Tree {
	var t impl.Tree
	zero := int16(asked)
	for i := range int16(asked) {
		t.Nodes = append(t.Nodes, asks(i+1, zero, zero))
	}
	if asked > 0 {
		t.Nodes[asked-1].Next[0] = zero + 1
	}
	t.Nodes = append(t.Nodes, tells(0, zero))
	for i := range told {
		digit := int8(0)
		if i == told-1 {
			digit = 1
		}
		t.Nodes = append(t.Nodes, tells(digit, min(zero+2+int16(i), zero+int16(told))))
	}
	return t
}

func TestQuestionsMeansByHand(t *testing.T) {
	none := impl.Ratio{}
	for _, row := range []struct {
		x    impl.Tree
		n    int64
		want impl.Ratio
		code int64
	}{
		{impl.EchoTree(), 0, frac(0, 1), impl.OK}, {impl.EchoTree(), 6, frac(0, 1), impl.OK}, {impl.EchoTree(), 7, none, impl.ErrLimit}, {tree("+ 0"), 0, frac(0, 1), impl.OK}, {tree("+ 0"), 1, frac(1, 2), impl.OK},
		{tree("- 0"), impl.MaxTold, frac(1-1<<20, 1<<20), impl.OK}, {tree("? 1 2 2, + 1, - 2"), 1, frac(-1, 6), impl.OK}, {tree("? 1 1 2, + 1, 0 2"), 2, frac(1, 2), impl.OK}, {tree("? 1 0 0, + 1"), 1, none, impl.ErrState},
		// The rows count for less if more digits are asked for in them: 1 / 3, and 2 / 3 times 1 / 3.
		{tree("? 1 2 2, + 1, ? 1 3 3, 0 3"), 1, frac(5, 18), impl.OK},
		{far(1, 1), 1, frac(1, 6), impl.OK}, {far(6, 1), 1, frac(1, 2*729), impl.OK}, {far(12, 1), 1, frac(1, 2*531441), impl.OK}, {far(13, 1), 1, none, impl.ErrLimit}, {far(13, 20), 0, frac(0, 1), impl.OK},
		// A ratio that is too large: 3 to the power 12, or 7, times a power of 2.
		{far(12, 11), 11, frac(1, 2048*531441), impl.OK}, {far(12, 12), 12, none, impl.ErrLimit}, {far(7, 19), 19, frac(1, 524288*2187), impl.OK}, {far(7, 20), 20, none, impl.ErrLimit}, {far(6, 20), 20, frac(1, 1048576*729), impl.OK},
		// Rows are too long also where only 0 is told.
		{far(13, 2), 1, none, impl.ErrLimit}, {far(12, 2), 1, frac(0, 1), impl.OK}, {far(30, 20), 20, none, impl.ErrLimit}, {spine(52, false), 7, none, impl.ErrLimit},
	} {
		if got, code := impl.MeanOf(row.x, row.n); got != row.want || code != row.code {
			t.Errorf("MeanOf %s, %d: got %v with %d, want %v with %d", short(row.x), row.n, got, code, row.want, row.code)
		}
	}
}

func TestQuestionsTreesOfStreamsByHand(t *testing.T) {
	for text, want := range map[string]string{
		":0": "0 0", "+:0": "+ 1, 0 1", ":+-": "+ 1, - 0", "+0-:-0": "+ 1, 0 2, - 3, - 4, 0 3", ":++": "+ 1, + 0",
		"+-0+-0+-0+-0+-0+:0+-0+-0+-0+-0-": "+ 1, - 2, 0 3, + 4, - 5, 0 6, + 7, - 8, 0 9, + 10, - 11, 0 12, + 13, - 14, 0 15, + 16, 0 17, + 18, - 19, 0 20, + 21, - 22, 0 23, + 24, - 25, 0 26, + 27, - 28, 0 29, - 16",
	} {
		got, code := impl.StreamTree(stream(text))
		wantTree(t, "StreamTree "+text, got, code, tree(want), impl.OK)
	}
	// Streams have at most 30 digits, which are fewer than MaxForks.
	full, code := impl.StreamTree(stream(strings.Repeat("+", impl.MaxHead) + ":" + strings.Repeat("-", impl.MaxLoop)))
	if len(full.Nodes) != 30 || full.Nodes[29] != tells(-1, 16) || code != impl.OK {
		t.Errorf("StreamTree of 30 digits: got %s with %d", short(full), code)
	}
}

func TestQuestionsTreesOfMachinesByHand(t *testing.T) {
	none := impl.Tree{}
	for _, row := range []struct {
		m    impl.Moebius
		want impl.Tree
		code int64
	}{
		{machine(0, 1, 0, 1), tree("+ 0"), impl.OK}, {machine(0, -1, 0, 1), tree("- 0"), impl.OK}, {machine(0, 0, 0, 1), tree("0 0"), impl.OK}, {machine(0, 5, 0, 5), tree("+ 0"), impl.OK},
		{machine(3, 5, 3, 5), tree("+ 0"), impl.OK}, {machine(-3, -5, 3, 5), tree("- 0"), impl.OK}, {machine(0, 0, 3, 5), tree("0 0"), impl.OK}, {machine(0, 1, 0, 2), tree("0 1, + 1"), impl.OK}, {machine(1, 2, 2, 4), tree("0 1, + 1"), impl.OK},
		{machine(0, -1, 0, 2), tree("0 1, - 1"), impl.OK}, {machine(0, 1, 0, 3), tree("0 1, + 0"), impl.OK}, {machine(0, 2, 0, 3), tree("+ 1, 0 0"), impl.OK}, {machine(0, -3, 0, 4), tree("- 1, 0 2, - 2"), impl.OK},
		{machine(1, 0, 0, 1), impl.EchoTree(), impl.OK}, {machine(9, 0, 0, 9), impl.EchoTree(), impl.OK}, {machine(-1, 0, 0, 1), impl.NegTree(), impl.OK}, {machine(1, 0, 0, 2), tree("0 1, ? 2 0 3, - 1, + 1"), impl.OK},
		{machine(1, -1, 0, 2), tree("- 1, ? 0 2 3, 0 1, + 1"), impl.OK}, {machine(1, 0, 0, 4), tree("0 1, 0 2, ? 3 1 4, - 2, + 2"), impl.OK},
		// Values that are not all from -1 to 1, also where the states would never end.
		{machine(2, 0, 0, 1), none, impl.ErrState}, {machine(1, 1, 0, 1), none, impl.ErrState}, {machine(0, 2, 0, 1), none, impl.ErrState}, {machine(0, -2, 0, 1), none, impl.ErrState}, {machine(3, 0, 1, 2), none, impl.ErrState},
		{machine(500001, 500000, 0, 1000000), none, impl.ErrState}, {machine(-500001, -500000, 0, 1000000), none, impl.ErrState},
		// States without end: in each of them that asks, D is greater in parts of C.
		{machine(1, 0, 1, 2), none, impl.ErrLimit}, {machine(0, 1, 1, 2), none, impl.ErrLimit}, {machine(1000000, 999999, 999999, 1000000), none, impl.ErrLimit}, {machine(1, 0, -1, 1000000), none, impl.ErrLimit}, {machine(500000, 500000, 0, 1000000), tree("+ 1, ? 2 3 0, - 1, 0 1"), impl.OK},
		{machine(1, 0, 0, 1000000), none, impl.ErrLimit}, {machine(0, 1, 0, 1000000), none, impl.ErrLimit}, {machine(0, 999999, 0, 1000000), none, impl.ErrLimit},
	} {
		got, code := impl.MoebiusTree(row.m)
		wantTree(t, fmt.Sprint("MoebiusTree ", row.m), got, code, row.want, row.code)
	}
	for m, nodes := range map[impl.Moebius]int{machine(-3, 0, 0, 23): 59, machine(-9, 0, 0, 17): 60, machine(0, 1, 0, 61): 60, machine(-16, 0, 0, 21): 0, machine(9, 0, 0, 10): 0, machine(0, 1, 0, 67): 0, machine(0, 1, 0, 1<<15): 16} {
		got, code := impl.MoebiusTree(m)
		if len(got.Nodes) != nodes || (code == impl.OK) != (nodes > 0) || nodes == 0 && code != impl.ErrLimit {
			t.Errorf("MoebiusTree %v: got %d nodes with %d, want %d", m, len(got.Nodes), code, nodes)
		}
	}
}

// turns returns a tree that asks so many times, tells 0 so many times, and begins again.
func turns(asked, told int) impl.Tree {
	var t impl.Tree
	count := int16(asked + told)
	for i := range count {
		next := (i + 1) % count
		if i < int16(asked) {
			t.Nodes = append(t.Nodes, asks(next, next, next))
		} else {
			t.Nodes = append(t.Nodes, tells(0, next))
		}
	}
	return t
}

func TestQuestionsComposedByHand(t *testing.T) {
	dumb, echo := tree("? 0 0 0"), impl.EchoTree()
	for _, row := range []struct {
		t, u impl.Tree
		want string
	}{
		{impl.NegTree(), impl.NegTree(), "? 1 2 3, - 0, 0 0, + 0"}, {impl.NegTree(), echo, "? 1 2 3, + 0, 0 0, - 0"}, {echo, impl.NegTree(), "? 1 2 3, + 0, 0 0, - 0"},
		{impl.HalfTree(), echo, "0 1, ? 2 3 4, - 1, 0 1, + 1"}, {echo, impl.HalfTree(), "0 1, ? 2 0 3, - 1, + 1"}, {impl.HalfTree(), impl.NegTree(), "0 1, ? 2 3 4, + 1, 0 1, - 1"},
		// One that never asks does the same behind all others, however these go on.
		{tree("+ 1, - 2, 0 1, + 0"), dumb, "+ 1, - 2, 0 1"}, {tree("+ 0"), tree("? 0 1 0, + 0"), "+ 0"}, {tree("+ 1, - 0"), tree("0 0"), "+ 1, - 0"},
		// One that never tells is only asked, and one behind it never tells.
		{echo, dumb, "? 0 0 0"}, {dumb, echo, "? 0 0 0"}, {dumb, dumb, "? 0 0 0"}, {impl.HalfTree(), dumb, "0 1, ? 1 1 1"}, {dumb, impl.HalfTree(), "? 0 0 0"}, {echo, tree("? 1 1 0, ? 0 1 1"), "? 1 1 0, ? 0 1 1"},
		// The streams of trees that only tell are told of; silent pairs one behind the other are none of the nodes.
		{echo, tree("+ 1, - 1"), "+ 1, - 1"}, {impl.NegTree(), tree("+ 1, - 0"), "- 1, + 0"}, {waiting(3), tree("+ 0"), "0 0"}, {waiting(59), tree("+ 1, - 0"), "0 1, 0 0"}, {waiting(58), tree("+ 1, - 0"), "0 0"},
		{tree("? 0 1 2, + 0, - 0"), tree("- 1, - 2, - 3, 0 4, + 0"), "+ 1, - 0"}, {tree("? 1 1 1, ? 2 2 2, ? 3 4 5, - 0, 0 0, + 0"), echo, "? 1 1 1, ? 2 2 2, ? 3 4 5, - 0, 0 0, + 0"},
		// The first pair stands for another one.
		{waiting(2), tree("+ 1, - 2, ? 0 0 2"), "0 1, ? 0 0 1"}, {tree("? 1 1 2, 0 0, + 0"), tree("+ 1, ? 0 1 0"), "+ 1, ? 0 1 0"},
		// Silent pairs that would come back without end are not reached.
		{tree("? 1 2 2, ? 1 1 1, + 0"), tree("+ 0"), "+ 0"}, {tree("? 1 2 2, ? 1 1 1, + 0"), tree("? 1 1 1, 0 0, - 2"), "? 1 1 1, + 0"}, {tree("+ 0, ? 1 1 1"), tree("+ 0"), "+ 0"},
	} {
		got, code := impl.ComposeTrees(row.t, row.u)
		wantTree(t, fmt.Sprint("ComposeTrees ", short(row.t), " and ", short(row.u)), got, code, tree(row.want), impl.OK)
	}
}

// late returns two trees: the pairs of one that asks so many times, and of one that asks so many times ahead of each digit,
// are all found before the last one, for the digit 1 alone, comes to where the tree goes on last, while digits 1 are told
// without end.
func late(asked, ahead int, last int16) (impl.Tree, impl.Tree) {
	count := int16(asked)
	t := turns(asked, 1)
	for i := range count {
		t.Nodes[i].Next[2] = count + 1
	}
	t.Nodes[count-1].Next[2] = last
	t.Nodes = append(t.Nodes, tells(0, count+1), asks(count+2, count+2, count+2))
	u := turns(ahead, 1)
	u.Nodes[ahead-1].Next[2] = int16(ahead) + 1
	u.Nodes = append(u.Nodes, tells(1, int16(ahead)+1))
	return t, u
}

func TestQuestionsSilentPairsWithoutEnd(t *testing.T) {
	for _, row := range []struct{ t, u string }{
		{"? 0 0 0", "+ 0"}, {"? 0 0 0", "+ 1, - 0"}, {"? 1 1 1, ? 0 0 0", "+ 1, - 2, 0 0"}, {"? 0 0 1, - 0", "- 1, 0 0"},
		// Behind a pair that is reached, and only for one digit.
		{"? 0 1 1, + 0", "? 1 1 2, 0 0, - 2"}, {"? 0 1 1, + 0", "? 1 2 1, 0 0, - 2"}, {"? 0 1 1, + 0", "? 2 1 1, 0 0, - 2"},
		{"? 0 1 1, + 0", "0 1, + 2, 0 3, ? 3 3 4, - 5, - 4"}, {"+ 1, ? 1 1 1", "0 1, 0 2, + 3, - 3"}, {"+ 1, - 2, ? 2 1 1", "? 1 0 0, - 1"},
		// Behind other silent pairs, which do not come back themselves.
		{"? 1 1 1, ? 2 2 2, ? 3 3 3, ? 2 2 2, + 0", "+ 1, + 2, + 3, + 3"}, {"+ 1, ? 2 2 2, ? 2 3 3, 0 0", "+ 1, - 1"},
	} {
		got, code := impl.ComposeTrees(tree(row.t), tree(row.u))
		wantTree(t, fmt.Sprint("ComposeTrees ", row.t, " and ", row.u), got, code, impl.Tree{}, impl.ErrState)
	}
	// The last node of the tree behind which they come back may be one of few, or stand behind more than MaxForks.
	for _, row := range []struct {
		asked, ahead, pairs int
	}{{3, 2, 8}, {5, 5, 27}, {29, 2, 60}, {10, 6, 62}, {8, 8, 66}, {40, 40, 1602}, {57, 57, 3251}} {
		for _, ended := range []bool{true, false} {
			last := int16(row.asked + 1)
			if !ended {
				last++
			}
			x, u := late(row.asked, row.ahead, last)
			code := int64(impl.OK)
			switch {
			case !ended:
				code = impl.ErrState
			case row.pairs > impl.MaxForks:
				code = impl.ErrLimit
			}
			got, gotCode := impl.ComposeTrees(x, u)
			if gotCode != code || code == impl.OK && len(got.Nodes) != row.pairs || code != impl.OK && len(got.Nodes) != 0 {
				t.Errorf("ComposeTrees %s and %s: got %d nodes with %d, want %d with %d", short(x), short(u), len(got.Nodes), gotCode, row.pairs, code)
			}
		}
	}
}

// As many silent pairs as there can be one behind the other, if they do not come back: one tree goes around in 59 nodes that
// ask, and the other one in 60 that tell, until the only digit 1 comes to the only node that goes on elsewhere for it.
func TestQuestionsManySilentPairs(t *testing.T) {
	for out := range 59 {
		var x impl.Tree
		for i := range int16(59) {
			x.Nodes = append(x.Nodes, asks((i+1)%59, (i+1)%59, (i+1)%59))
		}
		x.Nodes[out].Next[2] = 59
		x.Nodes = append(x.Nodes, tells(-1, 59))
		u := telling(append(make([]int8, 59), 1), 0)
		got, code := impl.ComposeTrees(x, u)
		wantTree(t, fmt.Sprint("ComposeTrees behind ", 60*(out+1), " silent pairs"), got, code, tree("- 0"), impl.OK)
	}
}

func TestQuestionsComposedAtTheLimit(t *testing.T) {
	for _, row := range []struct {
		t, u  impl.Tree
		nodes int
	}{
		{turns(29, 2), waiting(2), 60}, {turns(29, 3), waiting(2), 0}, {turns(1, 1), waiting(59), 60}, {turns(1, 2), waiting(59), 0}, {waiting(59), waiting(1), 60}, {turns(59, 1), turns(1, 1), 60}, {waiting(30), waiting(2), 0},
		{turns(0, 60), waiting(59), 60}, {turns(1, 59), waiting(1), 60}, {turns(1, 59), waiting(2), 0}, {turns(1, 59), tree("+ 0"), 59}, {turns(1, 59), turns(0, 60), 0}, {waiting(59), waiting(59), 0}, {turns(59, 1), turns(0, 59), 1}, {turns(59, 1), turns(0, 60), 60},
		{turns(58, 2), turns(0, 60), 60}, {turns(57, 3), turns(0, 60), 60}, {turns(53, 7), turns(0, 60), 0},
	} {
		got, code := impl.ComposeTrees(row.t, row.u)
		if len(got.Nodes) != row.nodes || (code == impl.OK) != (row.nodes > 0) || row.nodes == 0 && code != impl.ErrLimit {
			t.Errorf("ComposeTrees %s and %s: got %d nodes with %d, want %d", short(row.t), short(row.u), len(got.Nodes), code, row.nodes)
		}
	}
}

func TestQuestionsReachedByHand(t *testing.T) {
	for text, want := range map[string]string{
		"+ 0": "+ 0", "? 0 0 0": "? 0 0 0", "+ 0, - 0": "+ 0", "+ 0, ? 0 1 2, - 0": "+ 0", "+ 1, - 0": "+ 1, - 0", "+ 2, ? 0 1 2, - 0": "+ 1, - 0",
		"? 3 2 1, + 0, 0 0, - 0": "? 1 2 3, - 0, 0 0, + 0", "? 2 0 2, + 1, - 3, 0 3": "? 1 0 1, - 2, 0 2", "? 1 2 3, + 6, - 5, 0 4, + 3, - 2, 0 1": "? 1 2 3, + 4, - 5, 0 6, 0 1, - 2, + 3",
		// The node 0 is reached first of all, and is not found again behind nodes that tell.
		"- 1, + 1": "- 1, + 1", "0 3, - 0, - 0, + 3": "0 1, + 1", "? 1 1 1, + 3, - 0, 0 3": "? 1 1 1, + 2, 0 2",
	} {
		got, code := impl.ReachedTree(tree(text))
		wantTree(t, "ReachedTree "+text, got, code, tree(want), impl.OK)
	}
}

func TestQuestionsLeastByHand(t *testing.T) {
	for text, want := range map[string]string{
		// Nothing is put together, or all is, or just some nodes.
		"? 1 2 3, - 0, 0 0, + 0": "? 1 2 3, - 0, 0 0, + 0", "+ 1, + 2, + 0": "+ 0", "? 1 2 1, ? 2 0 1, ? 0 0 0": "? 0 0 0", "+ 1, + 1": "+ 0", "0 1, ? 2 3 4, - 1, 0 1, + 1": "0 1, ? 2 0 3, - 1, + 1", "+ 1, 0 2, + 3, 0 0": "+ 1, 0 0",
		// What tells the same and goes on otherwise is not alike, however late this is seen.
		"+ 1, + 2, - 0": "+ 1, + 2, - 0", "+ 1, + 2, + 3, + 4, - 4": "+ 1, + 2, + 3, + 4, - 4", "? 1 2 3, + 4, + 5, + 0, - 0, 0 0": "? 1 2 3, + 4, + 5, + 0, - 0, 0 0", "? 1 2 1, + 3, + 4, - 0, - 5, - 0": "? 1 2 1, + 3, + 4, - 0, - 3",
		// What asks and has three ways that are the same asks nevertheless.
		"? 1 1 1, + 0": "? 1 1 1, + 0", "? 1 2 3, + 0, + 0, + 0": "? 1 1 1, + 0", "? 1 1 1, ? 0 0 0": "? 0 0 0", "? 1 1 1, ? 2 2 2, + 0": "? 1 1 1, ? 2 2 2, + 0",
		// The rest is in the order in which it is found, and what is not reached counts for nothing.
		"? 3 2 1, + 0, 0 0, - 0": "? 1 2 3, - 0, 0 0, + 0", "+ 2, - 1, + 2": "+ 0", "+ 2, - 1, 0 0": "+ 1, 0 0", "? 2 1 3, + 0, + 0, - 4, + 0": "? 1 1 2, + 0, - 1", "? 1 1 1, + 2, ? 3 3 3, + 0": "? 1 1 1, + 0",
		"- 1, + 2, + 1": "- 1, + 1", "- 2, + 2, + 1": "- 1, + 1", "- 1, ? 2 3 0, - 3, ? 0 2 0": "- 1, ? 2 3 0, - 3, ? 0 2 0",
	} {
		got, code := impl.LeastTree(tree(text))
		wantTree(t, "LeastTree "+text, got, code, tree(want), impl.OK)
	}
	for name, x := range map[string]impl.Tree{"60 that tell": turns(0, 60), "60 that ask": turns(60, 0)} {
		if got, code := impl.LeastTree(x); len(got.Nodes) != 1 || code != impl.OK {
			t.Errorf("LeastTree of %s: got %s with %d", name, short(got), code)
		}
	}
	// 60 nodes that differ only at the very last digit, and 60 that are twice 30.
	for want, x := range map[int]impl.Tree{60: telling(append(make([]int8, 59), 1), 0), 59: telling(append(make([]int8, 58), 1, 1), 59), 30: telling(slices.Repeat(append(make([]int8, 29), 1), 2), 0)} {
		got, code := impl.LeastTree(x)
		wantTree(t, fmt.Sprint("LeastTree of ", want, " nodes"), got, code, leastOf(x), impl.OK)
		if len(got.Nodes) != want {
			t.Errorf("LeastTree %s: got %d nodes, want %d", short(x), len(got.Nodes), want)
		}
	}
}

func TestQuestionsSameAndAlike(t *testing.T) {
	for _, row := range []struct {
		t, u string
		want bool
	}{
		{"+ 0", "+ 0", true}, {"+ 0", "- 0", false}, {"+ 0", "+ 1, + 0", true}, {"+ 0", "+ 0, ? 1 1 1", true}, {"? 0 0 0", "? 1 1 1, ? 0 0 0", true}, {"? 0 0 0", "+ 0", false},
		{"? 1 2 3, - 0, 0 0, + 0", "? 3 2 1, + 0, 0 0, - 0", true}, {"? 1 2 3, - 0, 0 0, + 0", "? 3 1 2, 0 0, + 0, - 0", true}, {"? 1 2 3, - 0, 0 0, + 0", "? 1 2 3, + 0, 0 0, - 0", false}, {"+ 1, - 0", "- 1, + 0", false},
		// The same digits, asked for sooner or later, are not the same.
		{"? 1 1 1, + 0", "+ 1, ? 0 0 0", false}, {"? 1 1 1, + 0", "+ 0", false}, {"+ 1, ? 2 2 2, - 0", "+ 1, - 2, ? 0 0 0", false}, {"? 1 1 1, ? 2 2 2, + 0", "? 1 1 1, + 0", false},
	} {
		for _, pair := range [][2]string{{row.t, row.u}, {row.u, row.t}} {
			if got, code := impl.DoTheSame(tree(pair[0]), tree(pair[1])); got != row.want || code != impl.OK {
				t.Errorf("DoTheSame %s and %s: got %v with %d", pair[0], pair[1], got, code)
			}
			if got := impl.SameTree(tree(pair[0]), tree(pair[1])); got != (pair[0] == pair[1]) {
				t.Errorf("SameTree %s and %s: got %v", pair[0], pair[1], got)
			}
		}
	}
	// Trees need not be valid to be the same.
	odd := impl.Tree{Nodes: []impl.Fork{{Kind: 9, Digit: -7, Next: [3]int16{-1, 5, 300}}}}
	if !impl.SameTree(odd, impl.Tree{Nodes: slices.Clone(odd.Nodes)}) || !impl.SameTree(impl.Tree{}, impl.Tree{Nodes: []impl.Fork{}}) || impl.SameTree(odd, impl.Tree{}) || impl.SameTree(impl.Tree{}, odd) {
		t.Error("SameTree of trees that are not valid")
	}
	for _, f := range []impl.Fork{{Kind: 8, Digit: -7, Next: [3]int16{-1, 5, 300}}, {Kind: 9, Digit: 7, Next: [3]int16{-1, 5, 300}}, {Kind: 9, Digit: -7, Next: [3]int16{1, 5, 300}}, {Kind: 9, Digit: -7, Next: [3]int16{-1, 6, 300}}, {Kind: 9, Digit: -7, Next: [3]int16{-1, 5, 299}}} {
		if impl.SameTree(odd, impl.Tree{Nodes: []impl.Fork{f}}) {
			t.Errorf("SameTree of %v and %v", odd.Nodes[0], f)
		}
	}
	if impl.SameTree(tree("+ 0"), tree("+ 0, + 0")) || impl.SameTree(tree("+ 0, + 0"), tree("+ 0")) {
		t.Error("SameTree of trees with other numbers of nodes")
	}
}

func TestQuestionsDigitsApartByHand(t *testing.T) {
	ten := telling(append(make([]int8, 9), 1), 9)
	for _, row := range []struct {
		t, u    impl.Tree
		s       string
		n, want int64
		code    int64
	}{
		// At the first digit, at the last one of n, behind it, and never.
		{impl.EchoTree(), impl.NegTree(), ":+", 5, 0, impl.OK}, {impl.EchoTree(), impl.NegTree(), "00-:+", 5, 2, impl.OK}, {impl.EchoTree(), impl.NegTree(), "00-:+", 3, 2, impl.OK}, {impl.EchoTree(), impl.NegTree(), "00-:+", 2, 0, impl.ErrNotFound},
		{impl.EchoTree(), impl.NegTree(), ":0", impl.MaxDigits, 0, impl.ErrNotFound}, {impl.EchoTree(), impl.EchoTree(), ":+-", impl.MaxDigits, 0, impl.ErrNotFound}, {impl.EchoTree(), impl.NegTree(), ":+", 0, 0, impl.ErrNotFound}, {impl.EchoTree(), impl.NegTree(), ":+", 1, 0, impl.OK},
		{ten, tree("0 0"), ":+", 10, 9, impl.OK}, {ten, tree("0 0"), ":+", 9, 0, impl.ErrNotFound}, {tree("0 0"), ten, ":-", impl.MaxDigits, 9, impl.OK}, {telling(append(make([]int8, 59), 1), 0), tree("0 0"), ":-", impl.MaxDigits, 59, impl.OK}, {telling(append(make([]int8, 59), 1), 0), tree("0 0"), ":-", 59, 0, impl.ErrNotFound},
		{tree("+ 0"), tree("0 0"), ":0", 1, 0, impl.OK}, {tree("+ 0"), tree("- 0"), ":0", 1, 0, impl.OK},
		// What is told counts, and not what is asked for.
		{waiting(6), tree("0 0"), ":+", impl.MaxDigits, 0, impl.ErrNotFound}, {impl.HalfTree(), impl.EchoTree(), ":+", 5, 0, impl.OK}, {impl.HalfTree(), impl.EchoTree(), "0:+", 5, 1, impl.OK},
		// Both have to tell n digits, though they differ before.
		{waiting(7), tree("+ 0"), ":0", impl.MaxDigits, 0, impl.ErrBudget}, {tree("+ 0"), waiting(7), ":0", impl.MaxDigits, 0, impl.ErrBudget}, {tree("+ 0"), waiting(7), ":0", 57, 0, impl.OK}, {waiting(7), tree("+ 0"), ":0", 57, 0, impl.OK},
		{tree("+ 1, ? 1 1 1"), tree("- 0"), ":0", 1, 0, impl.OK}, {tree("+ 1, ? 1 1 1"), tree("- 0"), ":0", 2, 0, impl.ErrBudget}, {tree("? 0 0 0"), tree("? 0 0 0"), ":0", 0, 0, impl.ErrNotFound},
	} {
		if got, code := impl.FirstDigitApart(row.t, row.u, stream(row.s), row.n); got != row.want || code != row.code {
			t.Errorf("FirstDigitApart %s and %s of %s, %d: got %d with %d, want %d with %d", short(row.t), short(row.u), row.s, row.n, got, code, row.want, row.code)
		}
	}
}

func TestQuestionsConstantsByHand(t *testing.T) {
	for _, row := range []struct {
		t    impl.Tree
		want string
		code int64
	}{
		{tree("+ 0"), ":+", impl.OK}, {tree("+ 1, - 0"), ":+-", impl.OK}, {tree("+ 1, - 1"), "+:-", impl.OK}, {tree("0 1, + 1"), "0:+", impl.OK},
		// With a Head and a Loop that are not normal as they are told.
		{tree("+ 1, + 0"), ":+", impl.OK}, {tree("+ 1, + 1"), ":+", impl.OK}, {tree("+ 1, 0 2, + 3, 0 0"), ":+0", impl.OK}, {tree("+ 1, 0 2, + 1"), ":+0", impl.OK}, {tree("- 1, + 2, 0 3, + 2"), "-:+0", impl.OK},
		{turns(0, 60), ":0", impl.OK}, {telling(make([]int8, 60), 59), ":0", impl.OK}, {telling(slices.Repeat([]int8{1, 0}, 30), 0), ":+0", impl.OK}, {telling(slices.Repeat([]int8{1, 0}, 30), 40), ":+0", impl.OK}, {telling(slices.Repeat([]int8{1, 0, -1}, 20), 17), ":", impl.ErrLimit},
		{telling(slices.Repeat(append(make([]int8, 13), 1), 4), 0), ":0000000000000+", impl.OK}, {telling(slices.Repeat(append(make([]int8, 13), 1), 4), 14), ":0000000000000+", impl.OK}, {telling(append(make([]int8, 16), 1), 16), "0000000000000000:+", impl.OK},
		{telling(append(make([]int8, 15), 1, 1, 0), 16), "000000000000000+:+0", impl.OK}, {telling(append(slices.Repeat([]int8{1}, 16), append(make([]int8, 13), 1)...), 16), "+++++++++++++++:+0000000000000", impl.OK},
		// A stream that would not be valid: a Loop or a Head with a digit too many.
		{telling(append(make([]int8, 14), 1), 0), ":", impl.ErrLimit}, {telling(append(make([]int8, 17), 1), 17), ":", impl.ErrLimit}, {telling(append(make([]int8, 59), 1), 0), ":", impl.ErrLimit}, {telling(append(make([]int8, 59), 1), 59), ":", impl.ErrLimit},
		// A node that asks, and is not reached, or is.
		{tree("+ 2, ? 0 1 2, - 0"), ":+-", impl.OK}, {tree("+ 0, ? 0 0 0"), ":+", impl.OK}, {tree("+ 1, ? 0 0 0"), ":", impl.ErrState}, {tree("? 1 1 1, + 1"), ":", impl.ErrState}, {tree("? 0 0 0"), ":", impl.ErrState},
		{telling(append(make([]int8, 17), 1), 17), ":", impl.ErrLimit}, {impl.EchoTree(), ":", impl.ErrState}, {impl.HalfTree(), ":", impl.ErrState},
	} {
		want := stream(row.want)
		if row.code != impl.OK {
			want = impl.Stream{}
		}
		got, code := impl.ConstantOf(row.t)
		wantStream(t, "ConstantOf "+short(row.t), got, code, want, row.code)
	}
	// ErrState is told ahead of ErrLimit: a long way that comes to a node that asks.
	long := telling(append(make([]int8, 40), 1), 0)
	long.Nodes[40] = asks(0, 0, 0)
	got, code := impl.ConstantOf(long)
	wantStream(t, "ConstantOf "+short(long), got, code, impl.Stream{}, impl.ErrState)
}

func TestQuestionsTextsByHand(t *testing.T) {
	for text, want := range map[string]string{
		"tell + 0\n": "+ 0", "ask 0 0 0\n": "? 0 0 0", "ask 1 2 3\ntell - 0\ntell 0 0\ntell + 0\n": "? 1 2 3, - 0, 0 0, + 0", "tell 0 1\nask 2 3 4\ntell - 1\ntell 0 1\ntell + 1\n": "0 1, ? 2 3 4, - 1, 0 1, + 1",
	} {
		if got := impl.TreeText(tree(want)); got != text {
			t.Errorf("TreeText %s: got %q", want, got)
		}
		got, code := impl.ReadTree(text)
		wantTree(t, fmt.Sprintf("ReadTree %q", text), got, code, tree(want), impl.OK)
	}
	line := "tell 0 0\n"
	for count, code := range map[int]int64{1: impl.OK, 59: impl.OK, 60: impl.OK, 61: impl.ErrSyntax, 1000: impl.ErrSyntax} {
		got, gotCode := impl.ReadTree(strings.Repeat(line, count))
		if gotCode != code || code == impl.OK && len(got.Nodes) != count {
			t.Errorf("ReadTree of %d lines: got %d nodes with %d", count, len(got.Nodes), gotCode)
		}
	}
	last, code := impl.ReadTree(strings.Repeat(line, 59) + "ask 59 0 10\n")
	if code != impl.OK || last.Nodes[59] != asks(59, 0, 10) {
		t.Errorf("ReadTree of a line with 59: got %s with %d", short(last), code)
	}
	for _, text := range []string{
		"", "\n", " ", "ask", "ask\n", "tell\n", "tell 0\n", "tell 0 0", "ask 0 0 0", "ask 0 0", "ask 0 0\n", "ask 0 0 0 0\n", "tell 0 0 0\n", "tell + 0 0 0\n", "tell 0 0\n\n", "\ntell 0 0\n", "tell 0 0\ntell 0 0", "tell 0 0\r\n",
		"tell  0 0\n", "tell 0  0\n", "tell 0 0 \n", " tell 0 0\n", "tell\t0 0\n", "ask 0  0 0\n", "ask 0 0\t0\n", "ask 0\v0 0\n", "tell 0 0\f\n", "tell 0\u00a00\n", "tell 0 0\n \n",
		"tell 0 +0\n", "tell 0 -0\n", "tell 0 00\n", "ask 00 0 0\n", "ask 0 +0 0\n", "ask 0 0 -0\n", "tell 0 1\n", "tell 0 -1\n", "ask 0 0 1\n", "ask 1 0 0\n", "ask 0 1 0\n", "ask 0 0 -1\n", "tell 0 0x0\n", "tell 0 0_0\n", "tell 0 1e0\n",
		"tell 1 0\n", "tell -1 0\n", "tell ++ 0\n", "tell +- 0\n", "tell +1 0\n", "tell x 0\n", "tell \u2212 0\n", "tell \"0\" 0\n", "tell 2 0\n", "Tell 0 0\n", "TELL 0 0\n", "asks 0 0 0\n", "tells 0 0\n", "as 0 0 0\n", "ask0 0 0\n", "tell0 0\n", "0 0 0\n", "? 0 0 0\n", "+ 0\n",
		"tell 0 65536\n", "tell 0 -65536\n", "ask 65536 0 0\n", "ask 0 32768 0\n", "ask 0 0 4294967296\n", "tell 0 18446744073709551616\n", "tell 0 99999999999999999999999999\n", "tell 0 0\x00\n", "\xff", "tell \xff 0\n", "tell 0 \n", "tell  0\n", "ask 0 0 \n", "tell 0 0;tell 0 0\n",
	} {
		got, code := impl.ReadTree(text)
		wantTree(t, fmt.Sprintf("ReadTree %q", text), got, code, impl.Tree{}, impl.ErrSyntax)
	}
}
