package check

import (
	"fmt"
	"math"
	"math/rand"
	"slices"
	"strings"
	"testing"
	"unsafe"

	"forebear/api"
	"forebear/parse"
)

// chapterTable is the table of the chapter: names, arguments, what they come to.
const chapterTable = `all, none, refs, tags | none | Set
ref, tag | Text | Set
ancestors | Set; or Set, Num | Set
descendants, parents, children, heads, roots, merges, bases | Set | Set
touching | Set, Text | Set
latest, before, since | Set, Num | Set
union, common | one Set or more | Set
count | Set | Num`

// row is a line of the table: the lists of arguments that may be, or as many Sets as one likes.
type row struct {
	lists [][]Type
	many  bool
	comes Type
}

var typesByName = map[string]Type{"Set": Set, "Num": Num, "Text": Text}

// table are the rows of the chapter, by the functions' names.
var table = func() map[string]row {
	table := map[string]row{}
	for _, line := range strings.Split(chapterTable, "\n") {
		cells := strings.Split(line, " | ")
		r := row{comes: typesByName[cells[2]]}
		switch cells[1] {
		case "none":
			r.lists = [][]Type{nil}
		case "one Set or more":
			r.many = true
		default:
			for _, words := range strings.Split(cells[1], "; or ") {
				var list []Type
				for _, word := range strings.Split(words, ", ") {
					list = append(list, typesByName[word])
				}
				r.lists = append(r.lists, list)
			}
		}
		for _, name := range strings.Split(cells[0], ", ") {
			table[name] = r
		}
	}
	return table
}()

// allNames are the functions' names, rising.
var allNames = strings.Fields("all ancestors bases before children common count descendants heads latest merges none parents ref refs roots since tag tags touching union")

// wantedOf are the types that a function takes, if it is handed so many.
func wantedOf(name string, count int) ([]Type, api.Errno) {
	r, ok := table[name]
	if !ok {
		return nil, api.ErrFunc
	}
	for _, list := range r.lists {
		if len(list) == count {
			return list, api.OK
		}
	}
	if r.many && count > 0 {
		return slices.Repeat([]Type{Set}, count), api.OK
	}
	return nil, api.ErrCount
}

// fitsOf is Fits by the chapter's words.
func fitsOf(name string, types []Type) api.Errno {
	wanted, e := wantedOf(name, len(types))
	if e == api.OK && !slices.Equal(wanted, types) {
		e = api.ErrType
	}
	return e
}

// fault is an error, and its place.
type fault struct {
	at int
	e  api.Errno
}

// typeOf is what a node comes to, if there is no fault in it.
func typeOf(n parse.Node) Type {
	switch n.Op {
	case parse.OpNum:
		return Num
	case parse.OpText:
		return Text
	case parse.OpCall:
		return table[n.Text].comes
	}
	return Set
}

// faultsOf are all faults of a node, in the order in which the chapter tells them.
func faultsOf(n parse.Node) []fault {
	wanted := slices.Repeat([]Type{Set}, len(n.Kids))
	if n.Op == parse.OpCall {
		var e api.Errno
		if wanted, e = wantedOf(n.Text, len(n.Kids)); e != api.OK {
			return []fault{{n.At, e}}
		}
	}
	var faults []fault
	for i, kid := range n.Kids {
		faults = append(faults, faultsOf(kid)...)
		if typeOf(kid) != wanted[i] {
			faults = append(faults, fault{kid.At, api.ErrType})
		}
	}
	return faults
}

// checkOf is Check by the chapter's words.
func checkOf(n parse.Node) (Type, int, api.Errno) {
	if faults := faultsOf(n); len(faults) > 0 {
		return 0, faults[0].at, faults[0].e
	}
	return typeOf(n), 0, api.OK
}

// told is the beginning of what a node is.
func told(n parse.Node) string { return fmt.Sprintf("%.400q", fmt.Sprintf("%+v", n)) }

// wantCheck asks for all that Check answers.
func wantCheck(t *testing.T, n parse.Node, want Type, wantAt int, wantE api.Errno) {
	t.Helper()
	if got, at, e := Check(n); got != want || at != wantAt || e != wantE {
		t.Fatalf("%s: %d, %d, %v, want %d, %d, %v", told(n), got, at, e, want, wantAt, wantE)
	}
}

// placed is a node whose places are other ones.
func placed(n parse.Node, place func() int) parse.Node {
	n.At = place()
	kids := make([]parse.Node, len(n.Kids))
	for i, kid := range n.Kids {
		kids[i] = placed(kid, place)
	}
	n.Kids = kids
	return n
}

// holdWords holds Check of a node against the chapter's words.
func holdWords(t *testing.T, n parse.Node) {
	t.Helper()
	want, at, e := checkOf(n)
	wantCheck(t, n, want, at, e)
}

// hold holds Check against the chapter's words: of a node as it is, with other places, and as its text is read.
func hold(t *testing.T, n parse.Node) {
	t.Helper()
	holdWords(t, n)
	next := 1000
	holdWords(t, placed(n, func() int { next -= 7; return next }))
	want, _, wantE := Check(n)
	wantCheck(t, placed(n, func() int { return 0 }), want, 0, wantE)
	again, _, e := parse.Parse(parse.Show(n))
	if e == api.ErrLong || e == api.ErrDepth {
		return
	}
	if e != api.OK {
		t.Fatalf("%s: its text is not read: %v", told(n), e)
	}
	holdWords(t, again)
	if got, _, e := Check(again); got != want || e != wantE {
		t.Fatalf("%s: %d, %v, but as its text is read %d, %v", told(n), want, wantE, got, e)
	}
}

// nodeOf is the node of a text, which must be one.
func nodeOf(t *testing.T, s string) parse.Node {
	t.Helper()
	n, at, e := parse.Parse(s)
	if e != api.OK {
		t.Fatalf("%.200q: %d, %v", s, at, e)
	}
	return n
}

// wantType asks for the type of a text.
func wantType(t *testing.T, s string, want Type) {
	t.Helper()
	n := nodeOf(t, s)
	wantCheck(t, n, want, 0, api.OK)
	hold(t, n)
}

// wantError asks for an error at a place of a text, and for nothing beside it.
func wantError(t *testing.T, s string, at int, want api.Errno) {
	t.Helper()
	n := nodeOf(t, s)
	wantCheck(t, n, 0, at, want)
	hold(t, n)
}

func wantFunc(t *testing.T, s string, at int)  { t.Helper(); wantError(t, s, at, api.ErrFunc) }
func wantCount(t *testing.T, s string, at int) { t.Helper(); wantError(t, s, at, api.ErrCount) }
func wantWrong(t *testing.T, s string, at int) { t.Helper(); wantError(t, s, at, api.ErrType) }

func wantFits(t *testing.T, want api.Errno, name string, types ...Type) {
	t.Helper()
	if e := Fits(name, types...); e != want {
		t.Errorf("Fits(%.100q, %.100v): %v, want %v", name, types, e, want)
	}
	if e := fitsOf(name, types); e != want {
		t.Errorf("Fits(%.100q, %.100v) by the words: %v, want %v", name, types, e, want)
	}
}

func TestExamples(t *testing.T) {
	wantWrong(t, "heads(main | 3)", 13)
	wantFunc(t, "f(3|a)", 0)
	wantType(t, "ancestors(a, count(b))", Set)
	wantCount(t, "latest(a)", 0)
	wantType(t, "count(a)", Num)
}

// The numbers of the types are those of the chapter.
func TestTypes(t *testing.T) {
	if Set != 1 || Num != 2 || Text != 3 {
		t.Error(Set, Num, Text)
	}
}

// P24.1: each function with the arguments that it takes.
func TestFits(t *testing.T) {
	for _, name := range []string{"all", "none", "refs", "tags"} {
		wantFits(t, api.OK, name)
		wantFits(t, api.OK, name, []Type{}...)
		for _, one := range []Type{Set, Num, Text} {
			wantFits(t, api.ErrCount, name, one)
		}
		wantFits(t, api.ErrCount, name, Set, Set)
	}
	for _, name := range []string{"ref", "tag"} {
		wantFits(t, api.OK, name, Text)
		wantFits(t, api.ErrType, name, Set)
		wantFits(t, api.ErrType, name, Num)
		wantFits(t, api.ErrCount, name)
		wantFits(t, api.ErrCount, name, Text, Text)
	}
	for _, name := range []string{"descendants", "parents", "children", "heads", "roots", "merges", "bases", "count"} {
		wantFits(t, api.OK, name, Set)
		wantFits(t, api.ErrType, name, Num)
		wantFits(t, api.ErrType, name, Text)
		wantFits(t, api.ErrCount, name)
		wantFits(t, api.ErrCount, name, Set, Set)
		wantFits(t, api.ErrCount, name, Set, Num)
	}
	wantFits(t, api.OK, "touching", Set, Text)
	wantFits(t, api.ErrType, "touching", Set, Set)
	wantFits(t, api.ErrType, "touching", Set, Num)
	wantFits(t, api.ErrType, "touching", Text, Text)
	wantFits(t, api.ErrType, "touching", Text, Set)
	wantFits(t, api.ErrCount, "touching", Set)
	wantFits(t, api.ErrCount, "touching", Set, Text, Text)
	for _, name := range []string{"latest", "before", "since"} {
		wantFits(t, api.OK, name, Set, Num)
		wantFits(t, api.ErrType, name, Set, Set)
		wantFits(t, api.ErrType, name, Set, Text)
		wantFits(t, api.ErrType, name, Num, Num)
		wantFits(t, api.ErrType, name, Num, Set)
		wantFits(t, api.ErrCount, name, Set)
		wantFits(t, api.ErrCount, name, Set, Num, Num)
	}
}

// P24.1: ancestors takes one or two.
func TestFitsOfAncestors(t *testing.T) {
	wantFits(t, api.ErrCount, "ancestors")
	wantFits(t, api.OK, "ancestors", Set)
	wantFits(t, api.ErrType, "ancestors", Num)
	wantFits(t, api.ErrType, "ancestors", Text)
	wantFits(t, api.OK, "ancestors", Set, Num)
	wantFits(t, api.ErrType, "ancestors", Set, Set)
	wantFits(t, api.ErrType, "ancestors", Set, Text)
	wantFits(t, api.ErrType, "ancestors", Num, Num)
	wantFits(t, api.ErrType, "ancestors", Text, Num)
	wantFits(t, api.ErrType, "ancestors", Num, Set)
	wantFits(t, api.ErrCount, "ancestors", Set, Num, Num)
	wantFits(t, api.ErrCount, "ancestors", Set, Set, Set)
	wantType(t, "ancestors(a)", Set)
	wantType(t, "ancestors(a, 3)", Set)
	wantCount(t, "ancestors()", 0)
	wantCount(t, "ancestors(a, 3, 3)", 0)
	wantWrong(t, "ancestors(3)", 10)
	wantWrong(t, "ancestors('a')", 10)
	wantWrong(t, "ancestors(3, 3)", 10)
	wantWrong(t, "ancestors(a, b)", 13)
	wantWrong(t, "ancestors(a, 'b')", 13)
	wantWrong(t, "ancestors('a', b)", 10)
}

// wrongTypes are a type that no function takes at a place of a Set, and such as are none.
var wrongTypes = []Type{Num, Text, 0, 4, -1, math.MaxInt, math.MinInt}

// P24.1: union and common take any number of Sets but none, and nothing else at any place.
func TestFitsOfMany(t *testing.T) {
	for _, name := range []string{"union", "common"} {
		wantFits(t, api.ErrCount, name)
		for _, count := range []int{1, 2, 3, 4, 5, 100, 5000, 1 << 17} {
			types := slices.Repeat([]Type{Set}, count)
			wantFits(t, api.OK, name, types...)
			for _, wrong := range wrongTypes {
				for _, place := range []int{0, 1, count / 2, count - 2, count - 1} {
					if place < 0 || place >= count {
						continue
					}
					types[place] = wrong
					wantFits(t, api.ErrType, name, types...)
					types[place] = Set
				}
			}
		}
		wantFits(t, api.ErrType, name, Num, Num)
	}
}

// P24.1: the other functions refuse many arguments.
func TestFitsOfTooMany(t *testing.T) {
	for _, name := range allNames {
		want := api.ErrCount
		if table[name].many {
			want = api.OK
		}
		for _, count := range []int{3, 4, 7, 5000} {
			wantFits(t, want, name, slices.Repeat([]Type{Set}, count)...)
		}
	}
}

// everyList calls do with all lists of up to most of these types.
func everyList(of []Type, most int, do func([]Type)) {
	lists := [][]Type{nil}
	for range most + 1 {
		var next [][]Type
		for _, list := range lists {
			do(list)
			for _, one := range of {
				next = append(next, append(slices.Clone(list), one))
			}
		}
		lists = next
	}
}

// P24.1: all functions, and some that are none, with all lists of up to four types, and of what is no type.
func TestAllFits(t *testing.T) {
	counts := map[api.Errno]int{}
	for _, name := range append([]string{"f", "", "Set", "forebear"}, allNames...) {
		everyList([]Type{Set, Num, Text, 0, 4, -1}, 4, func(types []Type) {
			e := fitsOf(name, types)
			wantFits(t, e, name, types...)
			counts[e]++
		})
	}
	if counts[api.OK] < 25 || counts[api.ErrType] < 1000 || counts[api.ErrCount] < 1000 || counts[api.ErrFunc] < 1000 {
		t.Errorf("too few of a kind: %v", counts)
	}
}

// nearNames are names that are nearly a function's, and none.
func nearNames(name string) []string {
	near := []string{" " + name, name + " ", name + "()", name + "\x00", strings.ToUpper(name), strings.ToUpper(name[:1]) + name[1:], name + name, name[1:]}
	for i := range name {
		near = append(near, name[:i], name[:i]+name[i+1:], name[:i]+strings.ToUpper(name[i:i+1])+name[i+1:], name[:i]+"_"+name[i:])
	}
	for b := range 256 {
		near = append(near, name+string([]byte{byte(b)}), string([]byte{byte(b)})+name)
	}
	return slices.DeleteFunc(near, func(s string) bool { return slices.Contains(allNames, s) })
}

// P24.1, P24.2: what is nearly a function's name is none, whatever the arguments.
func TestNearNames(t *testing.T) {
	names := []string{"", "f", "main", "a", "set", "_", "allnone", "all none", "all, none", "refs tags", strings.Repeat("all", 1000)}
	for _, name := range allNames {
		names = append(names, nearNames(name)...)
	}
	a := parse.Node{Op: parse.OpName, Text: "a", At: 5}
	three := parse.Node{Op: parse.OpNum, Num: 3, At: 7}
	for _, name := range names {
		wantFits(t, api.ErrFunc, name)
		for _, types := range [][]Type{{Set}, {Text}, {Num}, {Set, Num}, {Set, Text}, {Set, Set, Set}, {0}, {4, -1}} {
			wantFits(t, api.ErrFunc, name, types...)
		}
		for _, kids := range [][]parse.Node{nil, {a}, {three}, {a, three}, {a, a, a}} {
			wantCheck(t, parse.Node{Op: parse.OpCall, Text: name, Kids: kids, At: 3}, 0, 3, api.ErrFunc)
		}
		s := name + "(a)"
		if n, _, e := parse.Parse(s); e == api.OK && n.Text == name {
			wantFunc(t, s, 0)
		}
	}
	for _, s := range []string{"al()", "alls()", "re('a')", "refss()", "ta('v')", "head(a)", "headss(a)", "counts(a)", "coun(a)", "union_(a)", "unio(a)", "latest1(a, 1)", "ancestor(a)"} {
		wantFunc(t, s, 0)
	}
}

// P24.1: that there is no such function is told ahead of the count, the count ahead of the types.
func TestFitsOrder(t *testing.T) {
	wantFits(t, api.ErrFunc, "f", 0, 0, 0, 0)
	wantFits(t, api.ErrFunc, "", Num, Text)
	for _, name := range allNames {
		if table[name].many {
			continue
		}
		for _, wrong := range wrongTypes {
			wantFits(t, api.ErrCount, name, wrong, wrong, wrong)
			wantFits(t, api.ErrCount, name, wrong, wrong, wrong, wrong)
		}
	}
	wantFits(t, api.ErrCount, "all", 0)
	wantFits(t, api.ErrCount, "ref", Set, Num)
	wantFits(t, api.ErrCount, "count", Num, Num)
	wantFits(t, api.ErrCount, "touching", Num)
	wantFits(t, api.ErrCount, "latest", Text)
	wantFits(t, api.ErrCount, "since", Num, Set, Set)
}

// P24.1: all names of the table, and no other, rising; each fits or asks for arguments.
func TestFunctions(t *testing.T) {
	got := Functions()
	if !slices.Equal(got, allNames) || len(got) != 21 || len(table) != 21 {
		t.Errorf("%q", got)
	}
	for i, name := range got {
		if i > 0 && got[i-1] >= name {
			t.Errorf("%q stands ahead of %q", got[i-1], name)
		}
		if _, ok := table[name]; !ok {
			t.Errorf("%q is not in the table", name)
		}
		if e := Fits(name); e != api.OK && e != api.ErrCount {
			t.Errorf("%q: %v", name, e)
		}
	}
}

// Rule 3: what Functions answers is new memory at each call.
func TestFunctionsAreNew(t *testing.T) {
	first, second := Functions(), Functions()
	for _, list := range [][]string{first, second} {
		list = list[:cap(list)]
		for i := range list {
			list[i] = "spoilt"
		}
		if third := Functions(); !slices.Equal(third, allNames) {
			t.Errorf("%q", third)
		}
	}
	first, second = Functions(), Functions()
	slices.Reverse(first)
	if _ = append(first, "more"); !slices.Equal(second, allNames) {
		t.Errorf("%q", second)
	}
	if Fits("all") != api.OK || Fits("spoilt") != api.ErrFunc || Fits("union", Set) != api.OK {
		t.Error("what was answered is kept")
	}
}

// P24.2: each kind of node alone.
func TestKindsAlone(t *testing.T) {
	for _, s := range []string{"a", "main", "all", "count", "#0000000000000000", "#ffffffffffffffff", "a|b", "a-b", "a&b", "a..b", "a::b", "!a", "a^", "a^2", "(a)"} {
		wantType(t, s, Set)
		wantType(t, " "+s+" ", Set)
	}
	for _, s := range []string{"all()", "none()", "refs()", "tags()", "ref('a')", "tag('a')", "ancestors(a)", "ancestors(a, 2)", "descendants(a)", "parents(a)", "children(a)", "heads(a)", "roots(a)", "merges(a)", "bases(a)", "touching(a, 'b')", "latest(a, 1)", "before(a, 0)", "since(a, 999999999)", "union(a)", "union(a, b)", "union(a, b, c, d)", "common(a)", "common(a, b)", "common(a, b, c, d)"} {
		wantType(t, s, Set)
	}
	wantType(t, "count(a)", Num)
	wantType(t, "  count( all( ) )", Num)
}

// P24.2: a number and a text, as a whole and where a Set is wanted.
func TestNumbersAndTexts(t *testing.T) {
	for s, want := range map[string]Type{"0": Num, "3": Num, "999999999": Num, "''": Text, "'x'": Text, "'a|3'": Text, "count(a)": Num} {
		wantType(t, s, want)
		wantType(t, "("+s+")", want)
		wantType(t, " ((\t"+s+") )", want)
		wantWrong(t, "!"+s, 1)
		wantWrong(t, "!("+s+")", 2)
		wantWrong(t, "!!"+s, 2)
		wantWrong(t, s+"^", 0)
		wantWrong(t, s+"^2", 0)
		wantWrong(t, "("+s+")^", 1)
		wantWrong(t, s+"^^3", 0)
		for _, sign := range []string{"|", "-", "&", "..", "::"} {
			wantWrong(t, s+sign+"a", 0)
			wantWrong(t, "a"+sign+s, 1+len(sign))
			wantWrong(t, s+sign+s, 0)
			wantWrong(t, "("+s+")"+sign+"a", 1)
			wantWrong(t, "a"+sign+"("+s+")", 2+len(sign))
			wantWrong(t, "b|(a"+sign+s+")", 4+len(sign))
			wantWrong(t, "(a "+sign+" "+s+")^", 4+len(sign))
			wantWrong(t, s+sign+"f()", 0)
		}
		wantWrong(t, "a|"+s+"|b", 2)
		wantWrong(t, "a-b-"+s, 4)
		wantWrong(t, s+"-b-c", 0)
		wantWrong(t, "a|b&"+s, 4)
		wantWrong(t, "heads("+s+")", 6)
		wantWrong(t, "union(a, "+s+")", 9)
		wantWrong(t, "union("+s+",'y')", 6)
		wantWrong(t, "latest("+s+",3)", 7)
		wantWrong(t, "!a & "+s+" & b", 5)
		wantWrong(t, "a ^ | "+s, 6)
		wantFunc(t, "g("+s+")", 0)
		wantCount(t, "refs("+s+")", 0)
		wantWrong(t, "a|(b..("+s+"))", 7)
	}
}

// kinds are texts of each kind of node, as they may stand at each place: where the token stands that makes the node, and what it comes to.
var kinds = []struct {
	text string
	at   int
	is   Type
}{
	{"a", 0, Set}, {"#00000000000000ff", 0, Set}, {"7", 0, Num}, {"'t, u'", 0, Text}, {"all()", 0, Set}, {"count(b)", 0, Num}, {"heads(c)", 0, Set},
	{"(a|b)", 2, Set}, {"(a - b)", 3, Set}, {"(a&b)", 2, Set}, {"(a..b)", 2, Set}, {"(a::b)", 2, Set}, {"(!a)", 1, Set}, {"(a^)", 2, Set}, {"(d^3)", 2, Set}, {"((7))", 2, Num}, {"('t')", 1, Text},
}

// P24.2: each kind of Kid at each place of each sign.
func TestKidsOfSigns(t *testing.T) {
	for _, one := range kinds {
		if one.is == Set {
			wantType(t, "!"+one.text, Set)
			wantType(t, one.text+"^", Set)
			wantType(t, one.text+"^2", Set)
		} else {
			wantWrong(t, "!"+one.text, 1+one.at)
			wantWrong(t, one.text+"^", one.at)
			wantWrong(t, one.text+"^2", one.at)
		}
		for _, other := range kinds {
			for _, sign := range []string{"|", "-", "&", "..", "::"} {
				s := one.text + sign + other.text
				switch {
				case one.is != Set:
					wantWrong(t, s, one.at)
				case other.is != Set:
					wantWrong(t, s, len(one.text)+len(sign)+other.at)
				default:
					wantType(t, s, Set)
				}
			}
		}
	}
}

// P24.2: each kind of Kid at each place of each function, with no, one, two and three of them.
func TestKidsOfCalls(t *testing.T) {
	for _, name := range append([]string{"f", "setof"}, allNames...) {
		everyRow(len(kinds), 3, func(places []int) {
			s := name + "("
			var types []Type
			var at []int
			for i, place := range places {
				if i > 0 {
					s += ","
				}
				types = append(types, kinds[place].is)
				at = append(at, len(s)+kinds[place].at)
				s += kinds[place].text
			}
			s += ")"
			n := nodeOf(t, s)
			wanted, e := wantedOf(name, len(places))
			if e != api.OK {
				wantCheck(t, n, 0, 0, e)
				return
			}
			for i := range types {
				if types[i] != wanted[i] {
					wantCheck(t, n, 0, at[i], api.ErrType)
					return
				}
			}
			wantCheck(t, n, table[name].comes, 0, api.OK)
		})
	}
}

// everyRow calls do with all rows of up to most numbers below a bound.
func everyRow(below, most int, do func([]int)) {
	rows := [][]int{nil}
	for range most + 1 {
		var next [][]int
		for _, row := range rows {
			do(row)
			for n := range below {
				next = append(next, append(slices.Clone(row), n))
			}
		}
		rows = next
	}
}

// P24.2: of a call the function is asked for ahead of its Kids, and so is their number.
func TestCallsAheadOfKids(t *testing.T) {
	for _, inside := range []string{"3|a", "g()", "!'x'", "all(a)", "ref()", "heads(3)", "a, g()", "g(), 3|a", "a, 3|a, !3", "3^", "f(f(f()))"} {
		wantFunc(t, "f("+inside+")", 0)
		wantFunc(t, " f ("+inside+")", 1)
		wantFunc(t, "a|f("+inside+")", 2)
		wantCount(t, "all("+inside+")", 0)
		wantCount(t, "latest("+inside+", a, 1)", 0)
		wantCount(t, "ref('x', "+inside+")", 0)
		wantCount(t, "count(a, "+inside+")", 0)
		wantCount(t, "b - none("+inside+")", 4)
	}
	for _, inside := range []string{"3|a", "g()", "!'x'", "all(a)", "ref()", "heads(3)"} {
		wantCount(t, "touching("+inside+")", 0)
		wantCount(t, "before("+inside+")", 0)
		wantCount(t, "ancestors(a, 3, "+inside+")", 0)
		wantCount(t, "heads(tags("+inside+"))", 6)
	}
	wantCount(t, "union()", 0)
	wantCount(t, "common( )", 0)
	wantCount(t, "heads()", 0)
	wantCount(t, "ref()", 0)
	wantCount(t, "touching()", 0)
	wantCount(t, "touching(a)", 0)
	wantCount(t, "touching(a, 'b', 'c')", 0)
	wantCount(t, "!(a|union())", 4)
	wantFunc(t, "f()", 0)
	wantFunc(t, "a..b & f()", 7)
}

// P24.2: of two faults the one in the first Kid is told.
func TestFirstKidFirst(t *testing.T) {
	wantFunc(t, "f()|g()", 0)
	wantFunc(t, "a|f()|g()", 2)
	wantFunc(t, "(f())|heads(3)", 1)
	wantWrong(t, "3|'x'", 0)
	wantWrong(t, "3|f()", 0)
	wantFunc(t, "f()|3", 0)
	wantCount(t, "all(a)&f()", 0)
	wantWrong(t, "!3..f()", 1)
	wantWrong(t, "a^..4", 4)
	wantCount(t, "heads()::union()", 0)
	wantWrong(t, "union(3, f())", 6)
	wantFunc(t, "union(f(), 3)", 6)
	wantFunc(t, "union(a, f(), 3)", 9)
	wantWrong(t, "union(a, 3, f(), b, !4)", 9)
	wantWrong(t, "common(a, b, c, !4, g())", 17)
	wantWrong(t, "latest(3, 'x')", 7)
	wantWrong(t, "latest(3, f())", 7)
	wantFunc(t, "latest(a, f())", 10)
	wantWrong(t, "latest(!3, a)", 8)
	wantWrong(t, "touching('x', a)", 9)
	wantWrong(t, "touching(a, 3)", 12)
	wantWrong(t, "ancestors(3, f())", 10)
	wantWrong(t, "a - 3 - f()", 4)
	wantFunc(t, "a - f() - 3", 4)
	wantWrong(t, "a & !3 | f()", 5)
}

// P24.2: a fault deep in the first Kid is told ahead of a wrong type of the first and of the second.
func TestDeepFaultFirst(t *testing.T) {
	wantWrong(t, "count(a|!3)|4", 9)
	wantWrong(t, "touching(count(!'x'), 3)", 16)
	wantFunc(t, "latest(count(a & f()), 'x')", 17)
	wantWrong(t, "before(count(heads(roots(a|(b..3)))), a)", 31)
	wantCount(t, "count(heads(all(a)))..3", 12)
	wantFunc(t, "!count(!(a|(b^|f())))", 15)
	wantWrong(t, "union(count(union(a, b, 3)), 4, 'x')", 24)
	wantFunc(t, "count(f())^", 6)
	wantCount(t, "count(a, b)^", 0)
}

// P24.2: a Kid's own error is told ahead of its type.
func TestOwnErrorFirst(t *testing.T) {
	wantWrong(t, "a|count(3)", 8)
	wantWrong(t, "latest(a, heads(3))", 16)
	wantWrong(t, "ref(!3)", 5)
	wantWrong(t, "ref(a|3)", 6)
	wantFunc(t, "ref(f())", 4)
	wantFunc(t, "ref(f('x'))", 4)
	wantCount(t, "ref(count())", 4)
	wantCount(t, "ref(all('x'))", 4)
	wantFunc(t, "!count(f())", 7)
	wantCount(t, "!count(all(a))", 7)
	wantCount(t, "!count()", 1)
	wantWrong(t, "touching(a, heads('x'))", 18)
	wantWrong(t, "since(a, 3|b)", 9)
	wantWrong(t, "since(a, b|3)", 11)
}

// P24.2: the place of a wrong type is that of the token that makes the Kid: of a name, a number, a text, a hash, a call its first one, of the others the sign.
func TestPlaces(t *testing.T) {
	wantWrong(t, "ref(a)", 4)
	wantWrong(t, " ref( \tmain )", 7)
	wantWrong(t, "ref(3)", 4)
	wantWrong(t, "heads('xyz')", 6)
	wantWrong(t, "ref(#00000000000000ff)", 4)
	wantWrong(t, "ref(heads(a))", 4)
	wantWrong(t, "ref(  heads (a))", 6)
	wantWrong(t, "ref(count(a))", 4)
	wantWrong(t, "ref(a|b)", 5)
	wantWrong(t, "ref(a   - b)", 8)
	wantWrong(t, "ref(a&b)", 5)
	wantWrong(t, "ref(a..b)", 5)
	wantWrong(t, "ref(main :: b)", 9)
	wantWrong(t, "ref(!a)", 4)
	wantWrong(t, "ref(!!a)", 4)
	wantWrong(t, "ref(a^)", 5)
	wantWrong(t, "ref(main ^ 2)", 9)
	wantWrong(t, "ref(a^^2)", 6)
	wantWrong(t, "ref(a|b|c)", 7)
	wantWrong(t, "ref((a|b)-c)", 9)
	wantWrong(t, "ref(a|(b-c))", 5)
	wantWrong(t, "ref(a&b|c&d)", 7)
	wantWrong(t, "ref((a))", 5)
	wantWrong(t, "ref(((a|b)))", 7)
	wantWrong(t, "latest(a, (b))", 11)
	wantWrong(t, "latest(a, b^)", 11)
	wantWrong(t, "latest('x', 1)", 7)
	wantWrong(t, "  !  3", 5)
	wantWrong(t, "\t3 ^ 4", 1)
}

// P24.2: a count stands where a Num is wanted, and nowhere else.
func TestCounts(t *testing.T) {
	for _, name := range []string{"latest", "before", "since", "ancestors"} {
		size := len(name)
		wantType(t, name+"(a, count(b))", Set)
		wantType(t, name+"(all(), (count(all())))", Set)
		wantWrong(t, name+"(count(a), count(b))", size+1)
		wantWrong(t, name+"(count(a), b)", size+1)
		wantFunc(t, name+"(a, counts(b))", size+4)
		wantCount(t, name+"(a, count())", size+4)
		wantWrong(t, name+"(a, count(3))", size+10)
		wantWrong(t, name+"(a, count(count(b)))", size+10)
		wantWrong(t, name+"(a, !count(b))", size+5)
		wantWrong(t, name+"(a, count(b)^)", size+4)
	}
	for _, name := range []string{"descendants", "parents", "children", "heads", "roots", "merges", "bases", "ancestors", "union", "common", "count", "ref", "tag"} {
		wantWrong(t, name+"(count(a))", len(name)+1)
	}
	wantWrong(t, "touching(a, count(b))", 12)
	wantWrong(t, "touching(count(a), 'b')", 9)
	wantWrong(t, "count(a)|b", 0)
	wantWrong(t, "count(a)-count(b)", 0)
	wantWrong(t, "a::count(b)", 3)
	wantType(t, "count(latest(a, count(latest(b, count(c)))))", Num)
}

// P24.2: calls in calls, and signs in signs, to the greatest depth, with a fault at the end or none.
func TestDepths(t *testing.T) {
	for _, depth := range []int{2, 3, 22, 23, 24} {
		n := depth - 1
		closed := strings.Repeat(")", n)
		wantType(t, strings.Repeat("heads(", n)+"a"+closed, Set)
		wantType(t, strings.Repeat("heads(", n)+"all()"+closed, Set)
		wantType(t, "count("+strings.Repeat("roots(", n-1)+"a"+closed, Num)
		wantWrong(t, strings.Repeat("heads(", n)+"3"+closed, 6*n)
		wantFunc(t, strings.Repeat("heads(", n)+"f()"+closed, 6*n)
		wantCount(t, strings.Repeat("heads(", n)+"union()"+closed, 6*n)
		wantFunc(t, strings.Repeat("f(", n)+"a"+closed, 0)
		wantType(t, strings.Repeat("!", n)+"a", Set)
		wantWrong(t, strings.Repeat("!", n)+"'a'", n)
		wantType(t, "a"+strings.Repeat("^", n), Set)
		wantWrong(t, "3"+strings.Repeat("^2", n), 0)
		wantType(t, strings.Repeat("latest(a, count(", n/2)+"a"+strings.Repeat("))", n/2), Set)
	}
}

// P24.2: nodes far deeper than Parse answers, as parse.Call may make them.
func TestBeyondDepth(t *testing.T) {
	a, three := nodeOf(t, "a"), nodeOf(t, " 3")
	good, bad := a, three
	for range 200 {
		good, bad = parse.Call("heads", good), parse.Call("heads", bad)
	}
	wantCheck(t, good, Set, 0, api.OK)
	wantCheck(t, bad, 0, 1, api.ErrType)
	for range 1 << 15 {
		good = parse.Node{Op: parse.OpCall, Text: "common", Kids: []parse.Node{a, good}, At: 9}
		bad = parse.Node{Op: parse.OpCall, Text: "common", Kids: []parse.Node{a, bad}, At: 9}
	}
	wantCheck(t, good, Set, 0, api.OK)
	wantCheck(t, bad, 0, 1, api.ErrType)
	wantCheck(t, parse.Call("count", a, bad), 0, 0, api.ErrCount)
}

// P24.2: nodes of parse.Call: its place is 0, its Kids keep theirs.
func TestCalled(t *testing.T) {
	a, three, x := nodeOf(t, "       a"), nodeOf(t, "    3"), nodeOf(t, "   'x'")
	both := nodeOf(t, "  b | c")
	for _, c := range []struct {
		n    parse.Node
		want Type
		at   int
		e    api.Errno
	}{
		{parse.Call("all"), Set, 0, api.OK},
		{parse.Call("f"), 0, 0, api.ErrFunc},
		{parse.Call(""), 0, 0, api.ErrFunc},
		{parse.Call("All"), 0, 0, api.ErrFunc},
		{parse.Call("all", a), 0, 0, api.ErrCount},
		{parse.Call("count", a), Num, 0, api.OK},
		{parse.Call("count", parse.Call("all")), Num, 0, api.OK},
		{parse.Call("ref", x), Set, 0, api.OK},
		{parse.Call("ref", a), 0, 7, api.ErrType},
		{parse.Call("ref", both), 0, 4, api.ErrType},
		{parse.Call("ref", parse.Call("all")), 0, 0, api.ErrType},
		{parse.Call("union", a, both, three), 0, 4, api.ErrType},
		{parse.Call("union", a, x, three), 0, 3, api.ErrType},
		{parse.Call("union", a, both, a, parse.Call("tag", x)), Set, 0, api.OK},
		{parse.Call("union", parse.Call("touching", a, three)), 0, 4, api.ErrType},
		{parse.Call("union", a, parse.Call("f", three)), 0, 0, api.ErrFunc},
		{parse.Call("latest", a, parse.Call("count", both)), Set, 0, api.OK},
		{parse.Call("latest", a, parse.Call("count", x)), 0, 3, api.ErrType},
	} {
		wantCheck(t, c.n, c.want, c.at, c.e)
		holdWords(t, c.n)
	}
	many := slices.Repeat([]parse.Node{a}, 5000)
	wantCheck(t, parse.Call("union", many...), Set, 0, api.OK)
	for _, place := range []int{0, 2500, 4999} {
		many[place] = three
		wantCheck(t, parse.Call("union", many...), 0, 4, api.ErrType)
		many[place] = a
	}
}

// P24.2: nodes with other places: the error's is the node's, whatever it is.
func TestOtherPlaces(t *testing.T) {
	for _, place := range []int{0, 1, -1, 77, 5000, math.MaxInt, math.MinInt} {
		for _, c := range []struct {
			s string
			e api.Errno
		}{
			{"ref(a)", api.ErrType}, {"f()", api.ErrFunc}, {"heads()", api.ErrCount}, {"a|3", api.ErrType}, {"!(a|f(3))", api.ErrFunc}, {"!'x'", api.ErrType}, {"union(a, all(b))", api.ErrCount},
		} {
			n := placed(nodeOf(t, c.s), func() int { return place })
			wantCheck(t, n, 0, place, c.e)
		}
		for _, s := range []string{"a", "a|b", "heads(a)", "!a^"} {
			wantCheck(t, placed(nodeOf(t, s), func() int { return place }), Set, 0, api.OK)
		}
		wantCheck(t, placed(nodeOf(t, "count(a)"), func() int { return place }), Num, 0, api.OK)
	}
}

// atoms are nodes of one token.
var atoms = []parse.Node{{Op: parse.OpName, Text: "a"}, {Op: parse.OpNum, Num: 3}, {Op: parse.OpText, Text: "x"}, {Op: parse.OpHash, ID: 255}}

// betweens are the Ops of two Kids.
var betweens = []parse.Op{parse.OpOr, parse.OpMinus, parse.OpAnd, parse.OpRange, parse.OpBetween}

// listed are lists of Kids that have so many tokens, the commas among them.
func listed(ofTokens [][]parse.Node, tokens int) [][]parse.Node {
	var lists [][]parse.Node
	for _, only := range ofTokens[tokens] {
		lists = append(lists, []parse.Node{only})
	}
	for first := 1; first+1 < tokens; first++ {
		for _, behind := range listed(ofTokens, tokens-first-1) {
			for _, n := range ofTokens[first] {
				lists = append(lists, append([]parse.Node{n}, behind...))
			}
		}
	}
	return lists
}

// nodesOf are all nodes of so many tokens (brackets that a Kid wants not counted), of those with fewer.
func nodesOf(ofTokens [][]parse.Node, tokens int) []parse.Node {
	if tokens == 1 {
		return atoms
	}
	var nodes []parse.Node
	for _, kid := range ofTokens[tokens-1] {
		nodes = append(nodes, parse.Node{Op: parse.OpNot, Kids: []parse.Node{kid}}, parse.Node{Op: parse.OpUp, Kids: []parse.Node{kid}})
	}
	for _, kid := range ofTokens[tokens-2] {
		nodes = append(nodes, parse.Node{Op: parse.OpUp, Num: 2, Kids: []parse.Node{kid}})
	}
	for first := 1; first+1 < tokens; first++ {
		for _, one := range ofTokens[first] {
			for _, other := range ofTokens[tokens-first-1] {
				for _, op := range betweens {
					nodes = append(nodes, parse.Node{Op: op, Kids: []parse.Node{one, other}})
				}
			}
		}
	}
	if tokens < 3 {
		return nodes
	}
	lists := [][]parse.Node{nil}
	if tokens > 3 {
		lists = listed(ofTokens, tokens-3)
	}
	for _, name := range append([]string{"f"}, allNames...) {
		for _, kids := range lists {
			nodes = append(nodes, parse.Node{Op: parse.OpCall, Text: name, Kids: kids})
		}
	}
	return nodes
}

// P24.2: all nodes of up to six tokens, as they are, with other places and as their texts are read.
func TestAllNodes(t *testing.T) {
	ofTokens := [][]parse.Node{nil}
	for tokens := 1; tokens <= 6; tokens++ {
		ofTokens = append(ofTokens, nodesOf(ofTokens, tokens))
		for _, n := range ofTokens[tokens] {
			hold(t, n)
		}
	}
	if len(ofTokens[6]) < 20000 {
		t.Error("too few nodes")
	}
}

// P24.2: all texts of some few tokens that Parse reads.
func TestAllTexts(t *testing.T) {
	read := 0
	for _, pieces := range [][]string{
		{"a", "3", "'x'", "!", "^", "|", "..", "(", ")"},
		{"a", "3", "count(", "latest(", ")", ",", "-"},
		{"a", "'x'", "touching(", "ref(", ")", ",", "&"},
		{"a", "1", "union(", "f(", "all(", ")", ","},
	} {
		everyRow(len(pieces), 5, func(places []int) {
			s := ""
			for _, place := range places {
				s += pieces[place] + " "
			}
			if n, _, e := parse.Parse(s); e == api.OK {
				holdWords(t, n)
				read++
			}
		})
	}
	if read < 500 {
		t.Error("too few texts are read:", read)
	}
}

// maker makes random nodes: most are what is wanted, some anything.
type maker struct {
	*rand.Rand
	odd int
}

// node is of about so many nodes at most, and most often comes to what is wanted.
func (m maker) node(wanted Type, size int) parse.Node {
	if m.Intn(100) < m.odd {
		wanted = Type(1 + m.Intn(3))
	}
	switch {
	case wanted == Text:
		return parse.Node{Op: parse.OpText, Text: []string{"", "a/b", "x, y", "("}[m.Intn(4)]}
	case wanted == Num && (size <= 1 || m.Intn(2) == 0):
		return parse.Node{Op: parse.OpNum, Num: m.Intn(1000)}
	case wanted == Num:
		return m.call("count", size)
	case size <= 1:
		return []parse.Node{{Op: parse.OpName, Text: "main"}, {Op: parse.OpName, Text: "all"}, {Op: parse.OpHash, ID: api.ID(m.Uint64())}, {Op: parse.OpCall, Text: "refs"}}[m.Intn(4)]
	}
	switch left := m.Intn(size); m.Intn(5) {
	case 0:
		return parse.Node{Op: parse.OpNot, Kids: []parse.Node{m.node(Set, size-1)}}
	case 1:
		return parse.Node{Op: parse.OpUp, Num: m.Intn(2) * m.Intn(9), Kids: []parse.Node{m.node(Set, size-1)}}
	case 2:
		return parse.Node{Op: betweens[m.Intn(5)], Kids: []parse.Node{m.node(Set, left), m.node(Set, size-1-left)}}
	}
	return m.call(allNames[m.Intn(len(allNames))], size)
}

// call is one that most often fits.
func (m maker) call(name string, size int) parse.Node {
	n := parse.Node{Op: parse.OpCall, Text: name}
	var fitting [][]Type
	for count := range 6 {
		if wanted, e := wantedOf(name, count); e == api.OK {
			fitting = append(fitting, wanted)
		}
	}
	wanted := fitting[m.Intn(len(fitting))]
	switch odd := m.Intn(100); {
	case odd < m.odd/2:
		n.Text = []string{"f", "main", "al", "countt"}[m.Intn(4)]
	case odd < m.odd:
		wanted = slices.Repeat([]Type{Set}, m.Intn(4))
	}
	for _, one := range wanted {
		n.Kids = append(n.Kids, m.node(one, m.Intn(size)))
	}
	return n
}

// P24.2: random nodes, good ones and such with faults at any place.
func TestRandomNodes(t *testing.T) {
	errors, types := map[api.Errno]int{}, map[Type]int{}
	for seed := range int64(20000) {
		m := maker{rand.New(rand.NewSource(seed)), []int{0, 2, 5, 20, 60}[seed%5]}
		n := m.node(Type(1+m.Intn(2)), 1+m.Intn(40))
		hold(t, n)
		holdWords(t, placed(n, func() int { return m.Int() - m.Int() }))
		got, _, e := Check(n)
		errors[e]++
		types[got]++
	}
	for _, e := range []api.Errno{api.OK, api.ErrFunc, api.ErrCount, api.ErrType} {
		if errors[e] < 500 {
			t.Errorf("too few of %v: %d", e, errors[e])
		}
	}
	if types[Set] < 1000 || types[Num] < 1000 {
		t.Errorf("too few of a type: %v", types)
	}
}

// lists are all lists of Kids in a node, with their spare room.
func lists(n parse.Node) [][]parse.Node {
	found := [][]parse.Node{n.Kids[:cap(n.Kids)]}
	for _, kid := range n.Kids {
		found = append(found, lists(kid)...)
	}
	return found
}

// withRoom is a node whose lists all have spare room, in which something stands.
func withRoom(n parse.Node) parse.Node {
	kids := make([]parse.Node, len(n.Kids), len(n.Kids)+2)
	for i, kid := range n.Kids {
		kids[i] = withRoom(kid)
	}
	for i := len(kids); i < cap(kids); i++ {
		kids[:cap(kids)][i] = parse.Node{Op: parse.OpCall, Text: "spare", At: i}
	}
	n.Kids = kids
	return n
}

// Rule 3: Check changes nothing of a node, its spare room neither, nor reads what stands there, and keeps nothing of it.
func TestCheckedIsNotChanged(t *testing.T) {
	for _, s := range []string{"a", "union(a, b|c, latest(d, count(e)), !f^2, (h..i)) & #00000000000000ff", "union(a, b|3, f())", "heads(f(a, b))", "all(a|b)", "count(a, !b)", "touching(a::b, c)"} {
		n := nodeOf(t, s)
		want, at, e := Check(n)
		n = withRoom(n)
		before := fmt.Sprintf("%+v %+v", n, lists(n))
		wantCheck(t, n, want, at, e)
		if after := fmt.Sprintf("%+v %+v", n, lists(n)); after != before {
			t.Errorf("handed in, and changed: %s, was %s", after, before)
		}
		for _, list := range lists(n) {
			for i := range list {
				list[i] = parse.Node{Op: parse.OpCall, Text: "none", At: 99}
			}
		}
		holdWords(t, n)
	}
	kids := []parse.Node{{Op: parse.OpName, Text: "a", At: 6}}
	n := parse.Node{Op: parse.OpCall, Text: "heads", Kids: kids}
	wantCheck(t, n, Set, 0, api.OK)
	kids[0] = parse.Node{Op: parse.OpNum, Num: 3, At: 8}
	wantCheck(t, n, 0, 8, api.ErrType)
	kids[0] = parse.Node{Op: parse.OpName, Text: "b", At: 6}
	wantCheck(t, n, Set, 0, api.OK)
}

// Rule 3: Fits changes nothing of its types, their spare room neither, and keeps neither them nor the name.
func TestFittedIsNotChanged(t *testing.T) {
	for _, name := range append([]string{"f"}, allNames...) {
		for count := range 4 {
			types := []Type{Num, Set, Text, Set, Num}[:count]
			Fits(name, types...)
			if !slices.Equal(types[:5], []Type{Num, Set, Text, Set, Num}) {
				t.Errorf("%s: handed in, and changed: %v", name, types[:5])
			}
		}
	}
	types := []Type{Set, Num}
	wantFits(t, api.OK, "latest", types...)
	types[1] = Text
	wantFits(t, api.ErrType, "latest", types...)
	wantFits(t, api.OK, "touching", types...)
	bytes := []byte("heads")
	name := unsafe.String(unsafe.SliceData(bytes), len(bytes))
	n := parse.Node{Op: parse.OpCall, Text: name, Kids: []parse.Node{{Op: parse.OpName, Text: "a"}}, At: 4}
	for _, c := range []struct {
		name string
		e    api.Errno
	}{{"heads", api.OK}, {"refs_", api.ErrFunc}, {"union", api.OK}, {"since", api.ErrCount}, {"roots", api.OK}} {
		copy(bytes, c.name)
		if e := Fits(name, Set); e != c.e {
			t.Errorf("%s: %v, want %v", c.name, e, c.e)
		}
		if _, _, e := Check(n); e != c.e {
			t.Errorf("Check of %s: %v, want %v", c.name, e, c.e)
		}
	}
	if !slices.Equal(Functions(), allNames) {
		t.Errorf("%q", Functions())
	}
}

// Rule 4: what is told hangs on what is handed in alone, whatever was asked before.
func TestAskedAgain(t *testing.T) {
	asked := []string{"a", "3", "'x'", "count(a)", "heads(3)", "f()", "all(a)", "union(a, b, 3)", "ancestors(a, count(b))"}
	for _, first := range asked {
		for _, then := range asked {
			Check(nodeOf(t, first))
			Fits(first, Set, Num)
			Functions()
			hold(t, nodeOf(t, then))
		}
	}
}
