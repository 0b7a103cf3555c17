package tests

import (
	"fmt"
	"math/big"
	"slices"
	"strings"
	"testing"

	"loop.example/g01242/impl"
)

// halves is the book of the document's example.
func halves() []impl.Line {
	return book("half = ratio 1 2; third = ratio 1 3; sum = sum half third")
}

// kept returns a list of what is kept, from a text like "half 8 128, half 9 256".
func kept(t *testing.T, text string) []impl.Kept {
	t.Helper()
	var list []impl.Kept
	for part := range strings.SplitSeq(text, ", ") {
		var k impl.Kept
		var value string
		if n, _ := fmt.Sscan(part, &k.Name, &k.Places, &value); n == 3 {
			k.Value = wide(t, value)
			list = append(list, k)
		}
	}
	return list
}

// keptText returns the text of what is kept.
func keptText(list []impl.Kept) string {
	var parts []string
	for _, k := range list {
		parts = append(parts, fmt.Sprint(k.Name, " ", k.Places, " ", bigOf(k.Value)))
	}
	return strings.Join(parts, ", ")
}

// manyKept returns a list of so many, each of them right, of a book whose lines are leaves.
func manyKept(b []impl.Line, count int) []impl.Kept {
	var list []impl.Kept
	for i := range count {
		k := impl.Kept{Name: b[i%len(b)].Name, Places: int64(i / len(b))}
		k.Value, _ = approxIn(b, k.Name, k.Places)
		list = append(list, k)
	}
	return list
}

func TestNotebooksExample(t *testing.T) {
	b := halves()
	read, code := impl.ReadBook("half = ratio 1 2\nthird = ratio 1 3\nsum = sum half third\n")
	wantBook(t, "ReadBook", read, code, b, impl.OK)
	names, code := impl.NeedsOf(b, "sum")
	wantNames(t, "NeedsOf", names, code, asNames("half third"), impl.OK)
	names, code = impl.UsersOf(b, "half")
	wantNames(t, "UsersOf", names, code, asNames("sum"), impl.OK)
	value, code := impl.ApproxIn(b, "sum", 4)
	wantWide(t, "ApproxIn", value, code, big.NewInt(13))
	if p, code := impl.ProveLess(b, "third", "half", 2); p != (impl.Proof{A: "third", B: "half", Places: 2}) || code != impl.OK {
		t.Errorf("ProveLess: got %v with %d", p, code)
	}
	names, proofs, code := impl.OrderOf(b, 2)
	wantNames(t, "OrderOf", names, code, asNames("third half sum"), impl.OK)
	if count, code := impl.CheckChain(b, proofs); len(proofs) != 2 || count != 2 || code != impl.OK {
		t.Errorf("CheckChain %v: got %d with %d", proofs, count, code)
	}
	value, list, from, code := impl.AskKept(b, kept(t, "half 8 128"), "half", 4)
	wantWide(t, "AskKept", value, code, big.NewInt(8))
	if !from || keptText(list) != "half 8 128" {
		t.Errorf("AskKept: got %v with %v kept", from, list)
	}
}

func TestNotebooksLimits(t *testing.T) {
	if got := fmt.Sprint(impl.MaxLines, impl.MaxName, impl.MaxKept); got != "24 8 200" {
		t.Errorf("MaxLines, MaxName and MaxKept are %s", got)
	}
}

func TestNotebooksTermsByHand(t *testing.T) {
	for _, row := range []struct{ lines, term, index string }{
		{"a = pi", "pi", "[0]"},
		{"a = pi; b = euler", "pi|euler", "[0 1]"},
		{"half = ratio 1 2; third = ratio 1 3; sum = sum half third", "ratio 1 2|ratio 1 3|sum 0 1", "[0 1 2]"},
		{"sum = sum third half; half = ratio 1 2; third = ratio 1 3", "ratio 1 3|ratio 1 2|sum 0 1", "[2 1 0]"},
		{"d = product c b; c = diff b a; b = root a; a = ratio 2 1", "ratio 2 1|root 0|diff 1 0|product 2 1", "[3 2 1 0]"},
		{"a = neg c; b = pi; c = neg b; d = sum b c", "pi|neg 0|neg 1|sum 0 1", "[2 0 1 3]"},
		{"x = max z z; y = pi; z = min y w; w = quotient y y", "pi|quotient 0 0|min 0 1|max 2 2", "[3 0 2 1]"},
		{"a = euler; f = sum d e; e = neg a; d = abs b; c = pi; b = root c", "euler|pi|root 1|abs 2|neg 0|sum 3 4", "[0 5 4 3 1 2]"},
	} {
		nodes, index, code := impl.TermOfBook(book(row.lines))
		text := strings.TrimSuffix(strings.ReplaceAll(impl.TermText(nodes), "\n", "|"), "|")
		if text != row.term || fmt.Sprint(index) != row.index || code != impl.OK {
			t.Errorf("TermOfBook %s: got %s, %v with %d, want %s, %s", row.lines, text, index, code, row.term, row.index)
		}
	}
	nodes, index, code := impl.TermOfBook(doubled(impl.MaxLines))
	if len(nodes) != impl.MaxLines || index[0] != impl.MaxLines-1 || index[impl.MaxLines-1] != 0 || code != impl.OK {
		t.Errorf("TermOfBook of sums of sums: got %v, %v with %d", nodes, index, code)
	}
}

func TestNotebooksBooksOfTermsByHand(t *testing.T) {
	b, code := impl.BookOfTerm(term(ratio(-3, 7), pi, one(impl.KdRoot, 0), two(impl.KdQuotient, 1, 2), two(impl.KdMin, 3, 3), euler))
	wantBook(t, "BookOfTerm", b, code, book("a = ratio -3 7; b = pi; c = root a; d = quotient b c; e = min d d; f = euler"), impl.OK)
	for _, row := range []struct {
		nodes int
		code  int64
	}{{1, impl.OK}, {2, impl.OK}, {impl.MaxLines - 1, impl.OK}, {impl.MaxLines, impl.OK}, {impl.MaxLines + 1, impl.ErrLimit}, {impl.MaxNodes, impl.ErrLimit}, {impl.MaxNodes + 1, impl.ErrInvalid}, {0, impl.ErrInvalid}} {
		nodes := slices.Repeat(term(pi), min(row.nodes, 1))
		for i := 1; i < row.nodes; i++ {
			nodes = append(nodes, two(impl.KdSum, int16(i-1), 0))
		}
		b, code := impl.BookOfTerm(nodes)
		if code != row.code || code != impl.OK && len(b) != 0 {
			t.Errorf("BookOfTerm of %d nodes: got %d with %d lines", row.nodes, code, len(b))
		}
		if code == impl.OK && (len(b) != row.nodes || row.nodes == impl.MaxLines && (b[23] != line("x = sum w a") || b[0] != line("a = pi"))) {
			t.Errorf("BookOfTerm of %d nodes: got %v", row.nodes, b)
		}
	}
}

func TestNotebooksNeedsAndUsersByHand(t *testing.T) {
	const lines = "e = neg d; a = pi; c = sum b a; b = neg a; d = product c c; f = euler; g = max f e"
	for _, row := range []struct{ name, needs, users string }{
		{"a", "", "e c b d g"}, {"b", "a", "e c d g"}, {"c", "a b", "e d g"}, {"d", "a c b", "e g"}, {"e", "a c b d", "g"}, {"f", "", "g"}, {"g", "e a c b d f", ""},
	} {
		needs, one := impl.NeedsOf(book(lines), row.name)
		wantNames(t, "NeedsOf "+row.name, needs, one, asNames(row.needs), impl.OK)
		users, two := impl.UsersOf(book(lines), row.name)
		wantNames(t, "UsersOf "+row.name, users, two, asNames(row.users), impl.OK)
	}
	// A line that is used twice by each of many is told once.
	b := doubled(impl.MaxLines)
	needs, code := impl.NeedsOf(b, "x")
	wantNames(t, "NeedsOf", needs, code, strings.Split("wvutsrqponmlkjihgfedcba", ""), impl.OK)
	users, code := impl.UsersOf(b, "a")
	wantNames(t, "UsersOf", users, code, strings.Split("xwvutsrqponmlkjihgfedcb", ""), impl.OK)
}

// wantChange checks a book that has been changed, "" standing for an error.
func wantChange(t *testing.T, what string, got []impl.Line, code int64, want string, wantCode int64) {
	t.Helper()
	var lines []impl.Line
	if want != "" {
		lines = book(want)
	}
	wantBook(t, what, got, code, lines, wantCode)
}

func TestNotebooksWriteByHand(t *testing.T) {
	const lines = "a = pi; b = neg a; c = sum a b"
	for _, row := range []struct {
		b, x, want string
		code       int64
	}{
		{"", "a = pi", "a = pi", impl.OK}, {"", "abcdefgh = ratio 1 2", "abcdefgh = ratio 1 2", impl.OK}, {"", "a = neg a", "", impl.ErrState}, {"", "a = neg b", "", impl.ErrState}, {"", "abcdefghi = pi", "", impl.ErrState}, {"", " = pi", "", impl.ErrState},
		{lines, "d = root c", lines + "; d = root c", impl.OK}, {lines, "d = ratio 1 2", lines + "; d = ratio 1 2", impl.OK}, {lines, "d = min d a", "", impl.ErrState}, {lines, "d = min a e", "", impl.ErrState}, {lines, "D = pi", "", impl.ErrState}, {lines, "d = none a", "", impl.ErrState},
		// In the place of the first one, of one between, and of the last one.
		{lines, "a = euler", "a = euler; b = neg a; c = sum a b", impl.OK}, {lines, "a = neg b", "", impl.ErrState}, {lines, "a = neg a", "", impl.ErrState}, {lines, "a = abs c", "", impl.ErrState},
		{lines, "b = ratio -1 3", "a = pi; b = ratio -1 3; c = sum a b", impl.OK}, {lines, "b = root a", "a = pi; b = root a; c = sum a b", impl.OK}, {lines, "b = diff a c", "", impl.ErrState}, {lines, "b = ratio 1 0", "", impl.ErrState},
		{lines, "c = max b b", "a = pi; b = neg a; c = max b b", impl.OK}, {lines, "c = sum a b", lines, impl.OK}, {lines, "c = neg c", "", impl.ErrState}, {lines, "c = pi a", "", impl.ErrState}, {lines, "c = neg a b", "", impl.ErrState}, {lines, "c = sum a", "", impl.ErrState},
		// Ahead of the line that it needs.
		{"a = pi; b = euler; c = ratio 1 2", "a = product b c", "a = product b c; b = euler; c = ratio 1 2", impl.OK}, {"a = pi; b = neg c; c = euler", "a = abs b", "a = abs b; b = neg c; c = euler", impl.OK}, {"a = pi; b = neg c; c = euler", "c = root a", "a = pi; b = neg c; c = root a", impl.OK}, {"a = neg b; b = neg c; c = euler", "c = neg a", "", impl.ErrState},
	} {
		var b []impl.Line
		if row.b != "" {
			b = book(row.b)
		}
		got, code := impl.WriteLine(b, line(row.x))
		wantChange(t, fmt.Sprintf("WriteLine %s into %s", row.x, row.b), got, code, row.want, row.code)
		got, list, code := impl.KeptAfter(b, nil, line(row.x))
		wantChange(t, fmt.Sprintf("KeptAfter %s into %s", row.x, row.b), got, code, row.want, row.code)
		if len(list) != 0 {
			t.Errorf("KeptAfter %s into %s: got %v, of nothing that was kept", row.x, row.b, list)
		}
	}
}

func TestNotebooksWriteAtMaxLines(t *testing.T) {
	full := leaves(impl.MaxLines)
	for text, want := range map[string]int64{
		"zz = pi": impl.ErrLimit, "zz = neg zz": impl.ErrLimit, "zz = neg y": impl.ErrLimit, "TOO = none": impl.ErrLimit, " = pi": impl.ErrLimit, "toolonga = ratio 1 0": impl.ErrLimit,
		"a = pi": impl.OK, "a = neg bb": impl.OK, "a = neg a": impl.ErrState, "a = neg zz": impl.ErrState, "a = ratio 1 0": impl.ErrState, "xxxxxxxx = neg a": impl.OK,
	} {
		got, code := impl.WriteLine(full, line(text))
		if code != want || code != impl.OK && len(got) != 0 || code == impl.OK && len(got) != impl.MaxLines {
			t.Errorf("WriteLine %s into %d lines: got %d lines with %d, want %d", text, len(full), len(got), code, want)
		}
	}
	got, code := impl.WriteLine(full[:impl.MaxLines-1], line("zz = pi"))
	wantBook(t, "WriteLine as the last one that there may be", got, code, append(slices.Clone(full[:impl.MaxLines-1]), line("zz = pi")), impl.OK)
}

func TestNotebooksEraseAndRenameByHand(t *testing.T) {
	const lines = "d = sum b b; a = pi; b = neg a; c = max a b"
	for _, row := range []struct {
		name, want string
		code       int64
	}{
		{"a", "", impl.ErrState}, {"b", "", impl.ErrState}, {"c", "d = sum b b; a = pi; b = neg a", impl.OK}, {"d", "a = pi; b = neg a; c = max a b", impl.OK}, {"e", "", impl.ErrNotFound}, {"", "", impl.ErrNotFound}, {"pi", "", impl.ErrNotFound},
	} {
		got, code := impl.EraseLine(book(lines), row.name)
		wantChange(t, "EraseLine "+row.name, got, code, row.want, row.code)
	}
	got, code := impl.EraseLine(book("a = pi"), "a")
	wantBook(t, "EraseLine of the only one", got, code, nil, impl.OK)
	for _, row := range []struct {
		old, name, want string
		code            int64
	}{
		{"a", "x", "d = sum b b; x = pi; b = neg x; c = max x b", impl.OK}, {"b", "longname", "d = sum longname longname; a = pi; longname = neg a; c = max a longname", impl.OK}, {"c", "sum", "d = sum b b; a = pi; b = neg a; sum = max a b", impl.OK}, {"d", "e", "e = sum b b; a = pi; b = neg a; c = max a b", impl.OK},
		{"a", "a", lines, impl.OK}, {"b", "b", lines, impl.OK}, {"c", "c", lines, impl.OK}, {"d", "d", lines, impl.OK},
		{"a", "b", "", impl.ErrState}, {"b", "a", "", impl.ErrState}, {"d", "c", "", impl.ErrState}, {"c", "d", "", impl.ErrState},
		{"a", "", "", impl.ErrRange}, {"a", "A", "", impl.ErrRange}, {"a", "x1", "", impl.ErrRange}, {"a", "longnames", "", impl.ErrRange}, {"a", "x y", "", impl.ErrRange}, {"a", "a ", "", impl.ErrRange}, {"a", "é", "", impl.ErrRange}, {"a", "`", "", impl.ErrRange}, {"a", "{", "", impl.ErrRange}, {"a", "x\x00", "", impl.ErrRange},
		{"e", "x", "", impl.ErrNotFound}, {"", "x", "", impl.ErrNotFound}, {"e", "a", "", impl.ErrNotFound}, {"e", "e", "", impl.ErrNotFound}, {"A", "A", "", impl.ErrNotFound}, {"e", "", "", impl.ErrNotFound},
	} {
		got, code := impl.RenameLine(book(lines), row.old, row.name)
		wantChange(t, fmt.Sprintf("RenameLine %q to %q", row.old, row.name), got, code, row.want, row.code)
	}
}

func TestNotebooksApproximationsAtTheEnds(t *testing.T) {
	b := book("third = ratio 1 3; big = ratio 1000000000 1; neg = neg third; round = quotient third zero; zero = diff big big; deep = root root; root = root big")
	for _, row := range []struct {
		name   string
		places int64
		want   string
	}{
		{"third", 0, "0"}, {"third", 1, "1"}, {"third", 62, "1537228672809129301"}, {"third", 63, "3074457345618258603"}, {"third", impl.MaxPlaces, "6148914691236517205"}, {"neg", impl.MaxPlaces, "-6148914691236517205"},
		{"big", 0, "1000000000"}, {"big", impl.MaxPlaces, "18446744073709551616000000000"}, {"zero", impl.MaxPlaces, "0"}, {"deep", 35, "6110121527414"},
	} {
		value, code := impl.ApproxIn(b, row.name, row.places)
		want, _ := new(big.Int).SetString(row.want, 10)
		wantWide(t, fmt.Sprint("ApproxIn ", row.name, " for ", row.places), value, code, want)
	}
	for _, row := range []struct {
		name         string
		places, code int64
	}{
		{"third", -1, impl.ErrRange}, {"third", impl.MaxPlaces + 1, impl.ErrRange}, {"round", 0, impl.ErrBudget}, {"round", impl.MaxPlaces, impl.ErrBudget}, {"round", impl.MaxPlaces + 1, impl.ErrRange}, {"deep", 36, impl.ErrLimit}, {"none", 3, impl.ErrNotFound}, {"none", -1, impl.ErrNotFound}, {"", 1, impl.ErrNotFound},
	} {
		value, code := impl.ApproxIn(b, row.name, row.places)
		wantCode(t, fmt.Sprint("ApproxIn ", row.name, " for ", row.places), value, code, row.code)
	}
}

func TestNotebooksAlikeByHand(t *testing.T) {
	for lines, want := range map[string]string{
		"a = pi":                            "[[a]]",
		"a = pi; b = euler":                 "[[a] [b]]",
		"a = pi; b = euler; c = pi; d = pi": "[[a c d] [b]]",
		"a = ratio 1 2; b = ratio 2 4; c = ratio 1 2":                    "[[a c] [b]]",
		"f = neg d; d = sum a b; a = pi; b = pi; e = sum b a; g = neg e": "[[f g] [d e] [a b]]",
		"a = pi; b = euler; c = sum a b; d = sum b a":                    "[[a] [b] [c] [d]]",
		"a = pi; b = neg a; c = neg b; d = pi; e = neg d; f = neg e":     "[[a d] [b e] [c f]]",
		"x = neg z; z = ratio 1 3; y = neg w; w = ratio 1 3; v = abs w":  "[[x y] [z w] [v]]",
		"a = min b b; b = pi; c = min d b; d = pi; e = max b d":          "[[a c] [b d] [e]]",
	} {
		groups, code := impl.EqualLines(book(lines))
		if fmt.Sprint(groups) != want || code != impl.OK {
			t.Errorf("EqualLines %s: got %v with %d, want %s", lines, groups, code, want)
		}
	}
	same := leaves(impl.MaxLines)
	groups, code := impl.EqualLines(same)
	if len(groups) != impl.MaxLines || code != impl.OK {
		t.Errorf("EqualLines of lines that all differ: got %v with %d", groups, code)
	}
	for i := range same {
		same[i].P = 5
	}
	groups, code = impl.EqualLines(same)
	if len(groups) != 1 || len(groups[0]) != impl.MaxLines || groups[0][0] != same[0].Name || groups[0][23] != same[23].Name || code != impl.OK {
		t.Errorf("EqualLines of lines that are all alike: got %v with %d", groups, code)
	}
	groups, code = impl.EqualLines(nil)
	if len(groups) != 0 || code != impl.ErrState {
		t.Errorf("EqualLines of the empty book: got %v with %d", groups, code)
	}
}

func TestNotebooksTextsOfNone(t *testing.T) {
	for _, text := range []string{
		"a = pi", "\n", "a = pi\n\n", "\na = pi\n", "a = pi\r\n", "a = pi \n", " a = pi\n", "a  = pi\n", "a =  pi\n", "a\t= pi\n", "a = pi\nb = euler", "a = pi b = euler\n",
		"a = ratio 1 2 \n", "a = ratio 1  2\n", "a = ratio +1 2\n", "a = ratio 1 +2\n", "a = ratio 01 2\n", "a = ratio 1 02\n", "a = ratio -0 1\n", "a = ratio 1 0\n", "a = ratio 1 -2\n", "a = ratio 1\n", "a = ratio\n", "a = ratio 1 2 3\n", "a = ratio 1000000001 1\n", "a = ratio 1 1000000001\n", "a = ratio 9223372036854775808 1\n", "a = ratio 1 99999999999999999999\n", "a = ratio 1.0 2\n", "a = ratio 0x1 2\n", "a = ratio 1_0 2\n", "a = ratio b c\nb = pi\nc = pi\n", "a = ratio --1 2\n",
		"A = pi\n", "a1 = pi\n", "abcdefghi = pi\n", " = pi\n", "= pi\n", "a pi\n", "a == pi\n", "a : pi\n", "pi\n", "a =\n", "a = \n", "a = PI\n", "a = none\n", "a = pi pi\n", "a = pi 1\n", "a = euler a\n",
		"a = neg a\n", "a = neg b\n", "a = neg\n", "a = neg 0\n", "a = neg b b\nb = pi\n", "a = sum b\nb = pi\n", "a = sum b b b\nb = pi\n", "a = sum b c\nb = pi\n", "a = sum b c\nb = neg a\nc = pi\n", "a = pi\na = pi\n", "a = pi\na = euler\n", "é = pi\n", "a = pi\x00\n", "a\u00a0= pi\n", "a = pi\v\n",
		impl.BookText(leaves(impl.MaxLines)) + "zz = pi\n", strings.Repeat("a = pi\n", 25),
	} {
		got, code := impl.ReadBook(text)
		wantBook(t, fmt.Sprintf("ReadBook %q", text), got, code, nil, impl.ErrSyntax)
	}
	for _, text := range []string{"", "a = pi\n", "pi = pi\n", "ratio = ratio -1 1\nsum = sum ratio ratio\nneg = neg sum\n", "a = ratio -1000000000 1000000000\n", "a = ratio 0 1000000000\n", "abcdefgh = neg a\na = euler\n", impl.BookText(leaves(impl.MaxLines)), impl.BookText(doubled(impl.MaxLines))} {
		got, code := impl.ReadBook(text)
		if code != impl.OK || impl.BookText(got) != text || text == "" && len(got) != 0 {
			t.Errorf("ReadBook %q: got %v with %d", text, got, code)
		}
	}
}
