package tests

import (
	"fmt"
	"math/big"
	"regexp"
	"slices"
	"strconv"
	"strings"
	"testing"

	"loop.example/g01242/impl"
)

// The tests of notebooks hold the program against a model, which finds what uses what by going over all pairs of lines, asks
// chapter 2 for the approximations of a term of its own, and tells lines to be alike by what stands in them; and against the
// numbers of the lines, found with floats of many bits.

// kindNames are the words of the kinds of nodes.
var kindNames = []string{"", "ratio", "sum", "diff", "product", "quotient", "neg", "abs", "min", "max", "root", "pi", "euler"}

// line returns the line with a text; where this is that of no line, so is the line.
func line(text string) impl.Line {
	words := append(strings.Split(text, " "), "", "")
	x := impl.Line{Name: words[0], Kind: int8(slices.Index(kindNames, words[2]))}
	if x.Kind == impl.KdRatio {
		x.P, _ = strconv.ParseInt(words[3], 10, 64)
		x.Q, _ = strconv.ParseInt(words[4], 10, 64)
		return x
	}
	x.A, x.B = words[3], words[4]
	return x
}

// book returns the book with these lines.
func book(text string) []impl.Line {
	var b []impl.Line
	for part := range strings.SplitSeq(text, "; ") {
		b = append(b, line(part))
	}
	return b
}

// asNames returns the names in a text.
func asNames(text string) []string { return strings.Fields(text) }

func lineText(x impl.Line) string {
	text := x.Name + " = " + kindNames[x.Kind]
	if x.Kind == impl.KdRatio {
		text += fmt.Sprint(" ", x.P, " ", x.Q)
	}
	for _, name := range usedBy(x) {
		text += " " + name
	}
	return text + "\n"
}

// bookText returns the text of a valid book.
func bookText(b []impl.Line) string {
	text := ""
	for _, x := range b {
		text += lineText(x)
	}
	return text
}

// What can be the text of a line; each number is written in one way only.
var (
	leafLine  = regexp.MustCompile(`^[a-z]{1,8} = (pi|euler)$`)
	ratioLine = regexp.MustCompile(`^[a-z]{1,8} = ratio (0|-?[1-9][0-9]{0,9}) [1-9][0-9]{0,9}$`)
	oneLine   = regexp.MustCompile(`^[a-z]{1,8} = (neg|abs|root) [a-z]{1,8}$`)
	twoLine   = regexp.MustCompile(`^[a-z]{1,8} = (sum|diff|product|quotient|min|max) [a-z]{1,8} [a-z]{1,8}$`)
)

// readBook returns the book with a text, and false if there is none.
func readBook(text string) ([]impl.Line, bool) {
	var b []impl.Line
	for text != "" {
		written, rest, ok := strings.Cut(text, "\n")
		if !ok || !leafLine.MatchString(written) && !ratioLine.MatchString(written) && !oneLine.MatchString(written) && !twoLine.MatchString(written) {
			return nil, false
		}
		b = append(b, line(written))
		text = rest
	}
	return b, isBook(b)
}

func isLineName(name string) bool {
	return len(name) >= 1 && len(name) <= impl.MaxName && strings.Trim(name, "abcdefghijklmnopqrstuvwxyz") == ""
}

// at returns the place of the line with a name, or -1.
func at(b []impl.Line, name string) int {
	return slices.IndexFunc(b, func(x impl.Line) bool { return x.Name == name })
}

// usedBy returns the names that a line uses, A first.
func usedBy(x impl.Line) []string {
	switch {
	case isLeaf(x.Kind):
		return nil
	case isUnary(x.Kind):
		return []string{x.A}
	}
	return []string{x.A, x.B}
}

// isBook reports whether a book is valid.
func isBook(b []impl.Line) bool {
	for i, x := range b {
		if !isLineName(x.Name) || at(b, x.Name) != i || x.Kind < impl.KdRatio || x.Kind > impl.KdEuler {
			return false
		}
		used := usedBy(x)
		if slices.ContainsFunc(used, func(name string) bool { return at(b, name) < 0 }) || len(used) < 2 && x.B != "" || len(used) < 1 && x.A != "" {
			return false
		}
		isRatio := x.P >= -impl.MaxRatio && x.P <= impl.MaxRatio && x.Q >= 1 && x.Q <= impl.MaxRatio
		if x.Kind == impl.KdRatio && !isRatio || x.Kind != impl.KdRatio && (x.P != 0 || x.Q != 0) {
			return false
		}
	}
	return len(b) <= impl.MaxLines && !isRound(b)
}

// isRound reports whether a line uses itself: lines that use none of those that are left are taken away, as long as there are such.
func isRound(b []impl.Line) bool {
	left := slices.Clone(b)
	for {
		next := slices.DeleteFunc(slices.Clone(left), func(x impl.Line) bool {
			return !slices.ContainsFunc(usedBy(x), func(name string) bool { return at(left, name) >= 0 })
		})
		if len(next) == len(left) {
			return len(left) > 0
		}
		left = next
	}
}

// allUses returns all pairs of a line and one that it uses, directly or by others.
func allUses(b []impl.Line) map[[2]string]bool {
	uses := map[[2]string]bool{}
	for _, x := range b {
		for _, name := range usedBy(x) {
			uses[[2]string{x.Name, name}] = true
		}
	}
	for _, by := range b {
		for _, x := range b {
			for _, y := range b {
				if uses[[2]string{x.Name, by.Name}] && uses[[2]string{by.Name, y.Name}] {
					uses[[2]string{x.Name, y.Name}] = true
				}
			}
		}
	}
	return uses
}

// needsIn returns the names that a line uses, and usersIn those of all lines that use it.
func needsIn(b []impl.Line, name string) []string {
	return namesWhere(b, func(x string) [2]string { return [2]string{name, x} })
}

func usersIn(b []impl.Line, name string) []string {
	return namesWhere(b, func(x string) [2]string { return [2]string{x, name} })
}

func namesWhere(b []impl.Line, pair func(name string) [2]string) []string {
	uses := allUses(b)
	var names []string
	for _, x := range b {
		if uses[pair(x.Name)] {
			names = append(names, x.Name)
		}
	}
	return names
}

// termOf returns the term of a book, and the node of each line.
func termOf(b []impl.Line) ([]impl.Node, []int64) {
	var order []string
	var add func(name string)
	add = func(name string) {
		if slices.Contains(order, name) {
			return
		}
		for _, used := range usedBy(b[at(b, name)]) {
			add(used)
		}
		order = append(order, name)
	}
	for _, x := range b {
		add(x.Name)
	}
	var nodes []impl.Node
	for _, name := range order {
		x := b[at(b, name)]
		node := impl.Node{Kind: x.Kind, P: x.P, Q: x.Q}
		if !isLeaf(x.Kind) {
			node.A = int16(slices.Index(order, x.A))
		}
		if !isLeaf(x.Kind) && !isUnary(x.Kind) {
			node.B = int16(slices.Index(order, x.B))
		}
		nodes = append(nodes, node)
	}
	var index []int64
	for _, x := range b {
		index = append(index, int64(slices.Index(order, x.Name)))
	}
	return nodes, index
}

// approxIn returns the approximation of a line, as chapter 2 has it.
func approxIn(b []impl.Line, name string, places int64) (impl.Wide, int64) {
	nodes, index := termOf(b)
	return impl.Approx(nodes, index[at(b, name)], places)
}

// numbersIn returns the numbers of all lines, nil for those that are made with a quotient by 0.
func numbersIn(b []impl.Line) map[string]*big.Float {
	nodes, index := termOf(b)
	list := numbersOf(nodes)
	numbers := map[string]*big.Float{}
	for i, x := range b {
		numbers[x.Name] = list[index[i]]
	}
	return numbers
}

// writtenIn returns the book in which a line has been written.
func writtenIn(b []impl.Line, x impl.Line) ([]impl.Line, int64) {
	after := slices.Clone(b)
	if i := at(b, x.Name); i >= 0 {
		after[i] = x
	} else {
		after = append(after, x)
	}
	switch {
	case len(after) > impl.MaxLines:
		return nil, impl.ErrLimit
	case !isBook(after):
		return nil, impl.ErrState
	}
	return after, impl.OK
}

// isKeptList reports whether a list has the form of what is kept.
func isKeptList(b []impl.Line, list []impl.Kept) bool {
	seen := map[string]bool{}
	for _, k := range list {
		key := fmt.Sprint(k.Name, " ", k.Places)
		if at(b, k.Name) < 0 || k.Places < 0 || k.Places > impl.MaxPlaces || seen[key] || k.Value == negativeZero {
			return false
		}
		seen[key] = true
	}
	return len(list) <= impl.MaxKept
}

// validKept returns what ValidKept returns for a valid book.
func validKept(b []impl.Line, list []impl.Kept) (bool, int64) {
	if !isKeptList(b, list) {
		return false, impl.OK
	}
	right := true
	for _, k := range list {
		value, code := approxIn(b, k.Name, k.Places)
		if code != impl.OK {
			return false, code
		}
		apart := new(big.Int).Sub(bigOf(k.Value), bigOf(value))
		right = right && apart.CmpAbs(big.NewInt(2)) <= 0
	}
	return right, impl.OK
}

// recalled returns what is told from a list, and false if there is nothing.
func recalled(list []impl.Kept, name string, places int64) (*big.Int, bool) {
	for more := range int64(impl.MaxPlaces) - places + 1 {
		for _, k := range list {
			if k.Name == name && k.Places == places+more {
				return bigNear(bigOf(k.Value), more), true
			}
		}
	}
	return nil, false
}

// wantNames checks a list of names and a code.
func wantNames(t *testing.T, what string, got []string, code int64, want []string, wantCode int64) {
	t.Helper()
	if !slices.Equal(got, want) || code != wantCode {
		t.Errorf("%s: got %q with %s, want %q with %s", what, got, impl.CodeName(code), want, impl.CodeName(wantCode))
	}
}

// wantBook checks a book and a code.
func wantBook(t *testing.T, what string, got []impl.Line, code int64, want []impl.Line, wantCode int64) {
	t.Helper()
	if !slices.Equal(got, want) || code != wantCode {
		t.Errorf("%s: got %v with %s, want %v with %s", what, got, impl.CodeName(code), want, impl.CodeName(wantCode))
	}
}

// name draws one that a line may have, and that is not among others.
func (d *draw) name(others []string) string {
	for {
		letters := make([]byte, 1+d.below(impl.MaxName))
		for i := range letters {
			letters[i] = "abcdexyz"[d.below(8)]
		}
		if !slices.Contains(others, string(letters)) {
			return string(letters)
		}
	}
}

// bookOf draws a book with the numbers of a term, in any order.
func (d *draw) bookOf(nodes []impl.Node) []impl.Line {
	var names []string
	for range nodes {
		names = append(names, d.name(names))
	}
	var b []impl.Line
	for i, node := range nodes {
		x := impl.Line{Name: names[i], Kind: node.Kind, P: node.P, Q: node.Q}
		if !isLeaf(node.Kind) {
			x.A = names[node.A]
		}
		if !isLeaf(node.Kind) && !isUnary(node.Kind) {
			x.B = names[node.B]
		}
		b = slices.Insert(b, int(d.below(int64(i+1))), x)
	}
	return b
}

// mildTerm draws a term of numbers that are seldom alike or hard to tell apart, and without errors.
func (d *draw) mildTerm(nodes int) []impl.Node {
	list := term(ratio(1+d.below(99), 1+d.below(99)))
	kinds := []int8{impl.KdRatio, impl.KdRatio, impl.KdSum, impl.KdSum, impl.KdDiff, impl.KdProduct, impl.KdNeg, impl.KdRoot, impl.KdMax, impl.KdPi, impl.KdEuler}
	for len(list) < nodes {
		kind := kinds[d.below(int64(len(kinds)))]
		a, b := int16(d.below(int64(len(list)))), int16(d.below(int64(len(list))))
		switch {
		case kind == impl.KdRatio:
			list = append(list, ratio(d.below(999)-400, 1+d.below(99)))
		case isLeaf(kind):
			list = append(list, impl.Node{Kind: kind})
		case isUnary(kind):
			list = append(list, one(kind, a))
		default:
			list = append(list, two(kind, a, b))
		}
	}
	return list
}

// smallBooks returns all books of one line, of two and of three with these names, which are made of pi, of opposites and of
// sums, be they valid or not.
func smallBooks() [][]impl.Line {
	names := []string{"a", "b", "c"}
	lines := []impl.Line{{Kind: impl.KdPi}}
	for _, a := range names {
		lines = append(lines, impl.Line{Kind: impl.KdNeg, A: a})
		for _, b := range names {
			lines = append(lines, impl.Line{Kind: impl.KdSum, A: a, B: b})
		}
	}
	books := [][]impl.Line{{}}
	for from, count := 0, 0; count < 3; count++ {
		to := len(books)
		for ; from < to; from++ {
			for _, x := range lines {
				x.Name = names[count]
				books = append(books, append(slices.Clone(books[from]), x))
			}
		}
	}
	return books
}

// doubled returns a book of so many lines, each of which is the sum of the one before and itself, in the opposite order.
func doubled(lines int) []impl.Line {
	b := []impl.Line{{Name: "a", Kind: impl.KdRatio, P: 1, Q: 3}}
	for i := 1; i < lines; i++ {
		before := b[0].Name
		b = slices.Insert(b, 0, impl.Line{Name: string(rune('a' + i)), Kind: impl.KdSum, A: before, B: before})
	}
	return b
}

// leaves returns a book of so many lines, the i-th of which is i / 7 less 1.
func leaves(lines int) []impl.Line {
	var b []impl.Line
	for i := range lines {
		b = append(b, impl.Line{Name: strings.Repeat(string(rune('a'+i)), 1+i%impl.MaxName), Kind: impl.KdRatio, P: int64(i) - 7, Q: 7})
	}
	return b
}

// someBooks returns valid books: listed ones, and drawn ones.
func someBooks() [][]impl.Line {
	list := [][]impl.Line{
		nil,
		book("a = pi"),
		book("zzzzzzzz = ratio -1000000000 1000000000"),
		book("half = ratio 1 2; third = ratio 1 3; sum = sum half third"),
		book("sum = sum half third; half = ratio 1 2; third = ratio 1 3"),
		book("d = product c b; c = diff b a; b = root a; a = ratio 2 1"),
		book("a = ratio 2 1; b = root a; c = diff b a; d = product c b"),
		book("c = product b b; a = pi; d = max a c; b = neg a; e = min d c"),
		book("x = quotient a b; a = euler; b = diff a a; c = abs x"),
		book("y = root x; x = product w w; w = product v v; v = product u u; u = ratio 1000000000 1"),
		book("a = ratio 1 2; b = ratio 1 2; c = ratio 2 4; d = sum a b; e = sum b a; f = neg d; g = neg e"),
		doubled(impl.MaxLines), leaves(impl.MaxLines), leaves(1), leaves(impl.MaxLines - 1),
	}
	d := draw(20261120)
	for i := range 120 {
		list = append(list, d.bookOf(d.term(1+i%impl.MaxLines)), d.bookOf(d.mildTerm(1+i%impl.MaxLines)))
	}
	return list
}
