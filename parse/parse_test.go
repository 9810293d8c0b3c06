package parse

import (
	"fmt"
	"math"
	"math/rand"
	"slices"
	"strings"
	"testing"
	"unsafe"

	"forebear/api"
	"forebear/lex"
)

const (
	leastHash    = "#0000000000000000"
	greatestHash = "#ffffffffffffffff"
)

func name(text string, at int) Node { return Node{Op: OpName, Text: text, At: at} }

func num(n, at int) Node { return Node{Op: OpNum, Num: n, At: at} }

func text(inside string, at int) Node { return Node{Op: OpText, Text: inside, At: at} }

func hash(id api.ID, at int) Node { return Node{Op: OpHash, ID: id, At: at} }

func call(text string, at int, kids ...Node) Node {
	return Node{Op: OpCall, Text: text, Kids: kids, At: at}
}

func two(op Op, at int, first, second Node) Node {
	return Node{Op: op, Kids: []Node{first, second}, At: at}
}

func not(at int, kid Node) Node { return Node{Op: OpNot, Kids: []Node{kid}, At: at} }

func up(n, at int, kid Node) Node { return Node{Op: OpUp, Num: n, Kids: []Node{kid}, At: at} }

// equal: are two nodes the same, their places too? An empty list of Kids may be nil.
func equal(a, b Node) bool {
	return a.Op == b.Op && a.Text == b.Text && a.Num == b.Num && a.ID == b.ID && a.At == b.At && slices.EqualFunc(a.Kids, b.Kids, equal)
}

// told is the beginning of what nodes are.
func told(nodes ...Node) string { return fmt.Sprintf("%.400q", fmt.Sprintf("%+v", nodes)) }

// placeless is a node with no places.
func placeless(n Node) Node {
	n.At = 0
	var kids []Node
	for _, kid := range n.Kids {
		kids = append(kids, placeless(kid))
	}
	n.Kids = kids
	return n
}

// depthOf is the depth by the chapter's words.
func depthOf(n Node) int {
	if len(n.Kids) == 0 {
		return 1
	}
	var depths []int
	for _, kid := range n.Kids {
		depths = append(depths, depthOf(kid))
	}
	return 1 + slices.Max(depths)
}

// betweenSigns are the signs between two, with what they make.
var betweenSigns = []struct {
	op    Op
	sign  string
	shown string
	level int
}{
	{OpOr, "|", " | ", 1}, {OpMinus, "-", " - ", 1}, {OpAnd, "&", " & ", 2}, {OpRange, "..", "..", 3}, {OpBetween, "::", "::", 3},
}

// levels are those of the chapter; that of all others is 6.
var levels = map[Op]int{OpOr: 1, OpMinus: 1, OpAnd: 2, OpRange: 3, OpBetween: 3, OpNot: 4, OpUp: 5, OpName: 6, OpHash: 6, OpNum: 6, OpText: 6, OpCall: 6}

// wantedLevels are the ones that the chapter wants of the Kids.
var wantedLevels = map[Op][]int{OpOr: {1, 2}, OpMinus: {1, 2}, OpAnd: {2, 3}, OpRange: {4, 4}, OpBetween: {4, 4}, OpNot: {4}, OpUp: {5}}

// shownOf is the text of a node by the chapter's words.
func shownOf(n Node) string {
	kids := make([]string, len(n.Kids))
	for i, kid := range n.Kids {
		wanted := 1
		if n.Op != OpCall {
			wanted = wantedLevels[n.Op][i]
		}
		kids[i] = shownOf(kid)
		if levels[kid.Op] < wanted {
			kids[i] = "(" + kids[i] + ")"
		}
	}
	switch n.Op {
	case OpName:
		return n.Text
	case OpNum:
		return fmt.Sprintf("%d", n.Num)
	case OpText:
		return "'" + n.Text + "'"
	case OpHash:
		return fmt.Sprintf("#%016x", uint64(n.ID))
	case OpCall:
		return n.Text + "(" + strings.Join(kids, ", ") + ")"
	case OpNot:
		return "!" + kids[0]
	case OpUp:
		if n.Num == 0 {
			return kids[0] + "^"
		}
		return fmt.Sprintf("%s^%d", kids[0], n.Num)
	}
	for _, b := range betweenSigns {
		if b.op == n.Op {
			return kids[0] + b.shown + kids[1]
		}
	}
	panic("no such Op")
}

// The grammar of the chapter, a rule a line: `perhaps` and `any number of times` are rules of their own, none of which is empty.
const grammar = `expr = inter
expr = expr | inter
expr = expr - inter
inter = range
inter = inter & range
range = unary
range = unary .. unary
range = unary :: unary
unary = ! unary
unary = postfix
postfix = atom
postfix = postfix ^
postfix = postfix ^ above
atom = Name
atom = Name ( )
atom = Name ( exprs )
atom = Hash
atom = zero
atom = above
atom = Text
atom = ( expr )
exprs = expr
exprs = exprs , expr`

// rule is a line of the grammar, by the numbers of its words.
type rule struct {
	line  string
	left  int
	right []int
}

// words are the grammar's words with their numbers, rules its lines.
var words, rules = func() (map[string]int, []rule) {
	words, rules := map[string]int{}, []rule{}
	for _, line := range strings.Split(grammar, "\n") {
		var numbers []int
		for _, word := range strings.Fields(strings.Replace(line, " =", "", 1)) {
			if _, ok := words[word]; !ok {
				words[word] = len(words)
			}
			numbers = append(numbers, words[word])
		}
		rules = append(rules, rule{line, numbers[0], numbers[1:]})
	}
	return words, rules
}()

// wordOf is the number of the word for a token.
func wordOf(token lex.Token) int {
	switch {
	case token.Kind == lex.Name:
		return words["Name"]
	case token.Kind == lex.Hash:
		return words["Hash"]
	case token.Kind == lex.Text:
		return words["Text"]
	case token.Kind == lex.Num && token.Num == 0:
		return words["zero"]
	case token.Kind == lex.Num:
		return words["above"]
	}
	return words[token.Text]
}

// item is a rule of which some words are read, and where the first of them stands.
type item struct{ rule, read, from int }

// begins tells how many tokens at the beginning begin an expr, and whether they are one: by all rules at the same time, token by token.
func begins(tokens []lex.Token) (int, bool) {
	var sets [][]item
	set := []item{}
	put := func(set []item, it item) []item {
		if !slices.Contains(set, it) {
			set = append(set, it)
		}
		return set
	}
	for i, r := range rules {
		if r.left == words["expr"] {
			set = put(set, item{i, 0, 0})
		}
	}
	for at := 0; ; at++ {
		// A rule is read to its end, or says what may come next.
		sets = append(sets, set)
		for k := 0; k < len(set); k++ {
			it := set[k]
			r := rules[it.rule]
			if it.read < len(r.right) {
				for i, below := range rules {
					if below.left == r.right[it.read] {
						set = put(set, item{i, 0, at})
					}
				}
				continue
			}
			for _, above := range sets[it.from] {
				if right := rules[above.rule].right; above.read < len(right) && right[above.read] == r.left {
					set = put(set, item{above.rule, above.read + 1, above.from})
				}
			}
		}
		sets[at] = set
		if at == len(tokens) {
			whole := slices.ContainsFunc(set, func(it item) bool {
				return it.from == 0 && rules[it.rule].left == words["expr"] && it.read == len(rules[it.rule].right)
			})
			return at, whole
		}
		var next []item
		for _, it := range set {
			if right := rules[it.rule].right; it.read < len(right) && right[it.read] == wordOf(tokens[at]) {
				next = put(next, item{it.rule, it.read + 1, it.from})
			}
		}
		if len(next) == 0 {
			return at, false
		}
		set = next
	}
}

// part is what a word of the grammar stands for: a token, a node, or the exprs of a call.
type part struct {
	token lex.Token
	nodes []Node
}

// making reads tokens by the grammar in every way, and keeps what it has read.
type making struct {
	tokens []lex.Token
	kept   map[[3]int][]part
}

// parts are all ways to read the tokens from one place up to another as a word.
func (m *making) parts(word, from, to int) []part {
	key := [3]int{word, from, to}
	if known, ok := m.kept[key]; ok {
		return known
	}
	var found []part
	if to == from+1 && wordOf(m.tokens[from]) == word {
		found = append(found, part{token: m.tokens[from]})
	}
	for _, r := range rules {
		if r.left != word {
			continue
		}
		for _, row := range m.rows(r.right, from, to) {
			found = append(found, nodesOf(r.line, row))
		}
	}
	m.kept[key] = found
	return found
}

// rows are all ways to read tokens as some words, each at least one token.
func (m *making) rows(wanted []int, from, to int) [][]part {
	if len(wanted) > to-from {
		return nil
	}
	var rows [][]part
	if len(wanted) == 1 {
		for _, p := range m.parts(wanted[0], from, to) {
			rows = append(rows, []part{p})
		}
		return rows
	}
	for end := from + 1; end < to; end++ {
		behind := m.rows(wanted[1:], end, to)
		if len(behind) == 0 {
			continue
		}
		for _, p := range m.parts(wanted[0], from, end) {
			for _, row := range behind {
				rows = append(rows, append([]part{p}, row...))
			}
		}
	}
	return rows
}

// nodesOf is what a line of the grammar makes of its words, by the chapter.
func nodesOf(line string, row []part) part {
	node := Node{}
	first := row[0].token
	switch line {
	case "expr = inter", "inter = range", "range = unary", "unary = postfix", "postfix = atom", "exprs = expr":
		return row[0]
	case "atom = ( expr )":
		return row[1]
	case "exprs = exprs , expr":
		return part{nodes: append(slices.Clone(row[0].nodes), row[2].nodes...)}
	case "atom = Name":
		node = Node{Op: OpName, Text: first.Text, At: first.At}
	case "atom = Name ( )":
		node = Node{Op: OpCall, Text: first.Text, At: first.At}
	case "atom = Name ( exprs )":
		node = Node{Op: OpCall, Text: first.Text, At: first.At, Kids: row[2].nodes}
	case "atom = Hash":
		node = Node{Op: OpHash, ID: first.ID, At: first.At}
	case "atom = zero", "atom = above":
		node = Node{Op: OpNum, Num: first.Num, At: first.At}
	case "atom = Text":
		node = Node{Op: OpText, Text: first.Text, At: first.At}
	case "unary = ! unary":
		node = Node{Op: OpNot, At: first.At, Kids: row[1].nodes}
	case "postfix = postfix ^":
		node = Node{Op: OpUp, At: row[1].token.At, Kids: row[0].nodes}
	case "postfix = postfix ^ above":
		node = Node{Op: OpUp, At: row[1].token.At, Kids: row[0].nodes, Num: row[2].token.Num}
	default:
		op := map[string]Op{"|": OpOr, "-": OpMinus, "&": OpAnd, "..": OpRange, "::": OpBetween}[row[1].token.Text]
		node = Node{Op: op, At: row[1].token.At, Kids: []Node{row[0].nodes[0], row[2].nodes[0]}}
	}
	return part{nodes: []Node{node}}
}

// nodeOf is Parse by the chapter's words.
func nodeOf(t *testing.T, s string) (Node, int, api.Errno) {
	t.Helper()
	tokens, at, e := lex.Scan(s)
	if e != api.OK {
		return Node{}, at, e
	}
	count, whole := begins(tokens)
	if count < len(tokens) {
		return Node{}, tokens[count].At, api.ErrSyntax
	}
	if !whole {
		return Node{}, len(s), api.ErrSyntax
	}
	m := making{tokens, map[[3]int][]part{}}
	found := m.parts(words["expr"], 0, len(tokens))
	if len(found) != 1 || len(found[0].nodes) != 1 {
		t.Fatalf("%.200q: read in %d ways", s, len(found))
	}
	if depthOf(found[0].nodes[0]) > 24 {
		return Node{}, 0, api.ErrDepth
	}
	return found[0].nodes[0], 0, api.OK
}

// hold holds Parse of a text, Show of its node and Parse of that against the chapter's words. Of many tokens these take too long to be read in every way.
func hold(t *testing.T, s string) {
	t.Helper()
	if tokens, _, _ := lex.Scan(s); len(tokens) > 60 {
		return
	}
	n, at, e := Parse(s)
	want, wantAt, wantE := nodeOf(t, s)
	if e != wantE || at != wantAt || !equal(n, want) {
		t.Fatalf("%.200q: %s, %d, %v, by the words %s, %d, %v", s, told(n), at, e, told(want), wantAt, wantE)
	}
	if e == api.OK {
		holdShown(t, n)
	}
}

// holdShown holds Show of a node, and Parse of that, against the chapter's words.
func holdShown(t *testing.T, n Node) {
	t.Helper()
	shown := Show(n)
	if want := shownOf(n); shown != want {
		t.Fatalf("Show of %s: %.200q, want %.200q", told(n), shown, want)
	}
	if other := Show(placeless(n)); other != shown {
		t.Fatalf("Show hangs on places: %.200q, %.200q", shown, other)
	}
	again, at, e := Parse(shown)
	if len(shown) > 1024 {
		if e != api.ErrLong || at != 0 || !equal(again, Node{}) {
			t.Fatalf("%.200q: %s, %d, %v", shown, told(again), at, e)
		}
		return
	}
	if e != api.OK || at != 0 || !equal(placeless(again), placeless(n)) {
		t.Fatalf("%.200q: %s, %d, %v, want the node %s", shown, told(again), at, e, told(n))
	}
	if text := Show(again); text != shown {
		t.Fatalf("%.200q is shown as %.200q", shown, text)
	}
}

// wantNode asks for this node, and holds the text against the chapter's words.
func wantNode(t *testing.T, s string, want Node) {
	t.Helper()
	n, at, e := Parse(s)
	if e != api.OK || at != 0 || !equal(n, want) {
		t.Errorf("%.200q: %s, %d, %v, want %s", s, told(n), at, e, told(want))
	}
	hold(t, s)
}

// wantShown asks for the text that the node of a text has.
func wantShown(t *testing.T, s, want string) {
	t.Helper()
	n, at, e := Parse(s)
	if shown := Show(n); e != api.OK || at != 0 || shown != want {
		t.Errorf("%.200q: %.200q, %d, %v, want %.200q", s, shown, at, e, want)
	}
	hold(t, s)
}

// wantSame asks for a text that is shown as it is.
func wantSame(t *testing.T, s string) {
	t.Helper()
	wantShown(t, s, s)
}

// wantError asks for an error at a place, and for nothing beside it.
func wantError(t *testing.T, s string, wantAt int, want api.Errno) {
	t.Helper()
	n, at, e := Parse(s)
	if e != want || at != wantAt || !equal(n, Node{}) {
		t.Errorf("%.200q: %s, %d, %v, want %d, %v", s, told(n), at, e, wantAt, want)
	}
}

func wantSyntax(t *testing.T, s string, at int) {
	t.Helper()
	wantError(t, s, at, api.ErrSyntax)
	hold(t, s)
}

func wantDeep(t *testing.T, s string) {
	t.Helper()
	wantError(t, s, 0, api.ErrDepth)
}

// wantDepth asks for a node of a depth, or for ErrDepth, if that is above 24.
func wantDepth(t *testing.T, s string, depth int) {
	t.Helper()
	if depth > 24 {
		wantDeep(t, s)
		return
	}
	n, at, e := Parse(s)
	if e != api.OK || at != 0 || depthOf(n) != depth {
		t.Errorf("%.200q: depth %d, %d, %v, want %d", s, depthOf(n), at, e, depth)
		return
	}
	holdShown(t, n)
}

func TestExamples(t *testing.T) {
	wantNode(t, "a|b&!c^2", two(OpOr, 1, name("a", 0), two(OpAnd, 3, name("b", 2), not(4, up(2, 6, name("c", 5))))))
	wantShown(t, "a|b&!c^2", "a | b & !c^2")
	wantShown(t, "(a|b)..c", "(a | b)..c")
	wantSyntax(t, "a..b..c", 4)
	wantSyntax(t, "a^0", 2)
	wantSyntax(t, "", 0)
	wantShown(t, "heads(all())-main", "heads(all()) - main")
}

// The numbers of the Ops are those of the chapter.
func TestOps(t *testing.T) {
	ops := []Op{OpName, OpHash, OpNum, OpText, OpCall, OpOr, OpMinus, OpAnd, OpRange, OpBetween, OpNot, OpUp}
	for i, op := range ops {
		if int(op) != i+1 {
			t.Errorf("the Op %d is %d", i+1, op)
		}
	}
	for i, s := range []string{"a", leastHash, "1", "'a'", "a()", "a|b", "a-b", "a&b", "a..b", "a::b", "!a", "a^"} {
		if n, _, e := Parse(s); e != api.OK || int(n.Op) != i+1 {
			t.Errorf("%q: %d, %v", s, n.Op, e)
		}
	}
}

// P23.1: without tokens more is wanted, behind all blanks.
func TestBlanks(t *testing.T) {
	wantSyntax(t, "", 0)
	wantSyntax(t, " ", 1)
	wantSyntax(t, "\t", 1)
	wantSyntax(t, " \t \t", 4)
	wantSyntax(t, strings.Repeat(" ", 1023), 1023)
	wantSyntax(t, strings.Repeat(" ", 1024), 1024)
	wantError(t, strings.Repeat(" ", 1025), 0, api.ErrLong)
	wantNode(t, strings.Repeat(" ", 1023)+"a", name("a", 1023))
	wantNode(t, "a"+strings.Repeat("\t", 1023), name("a", 0))
}

// P23.1: each kind of atom alone, and what it has beside Op and At.
func TestAtoms(t *testing.T) {
	wantNode(t, "a", name("a", 0))
	wantNode(t, " main ", name("main", 1))
	wantNode(t, "z_23456789012345", name("z_23456789012345", 0))
	wantNode(t, "0", num(0, 0))
	wantNode(t, "1", num(1, 0))
	wantNode(t, "\t999999999", num(999999999, 1))
	wantNode(t, "''", text("", 0))
	wantNode(t, "  'a b'", text("a b", 2))
	wantNode(t, "'|'", text("|", 0))
	wantNode(t, "'('", text("(", 0))
	wantNode(t, "'main'", text("main", 0))
	wantNode(t, leastHash, hash(0, 0))
	wantNode(t, " "+greatestHash, hash(math.MaxUint64, 1))
	wantNode(t, "#0123456789abcdef", hash(0x0123456789abcdef, 0))
	wantNode(t, "f()", call("f", 0))
	wantNode(t, "(a)", name("a", 1))
	wantNode(t, "((0))", num(0, 2))
	wantNode(t, "('a')", text("a", 1))
	wantNode(t, "("+leastHash+")", hash(0, 1))
	wantNode(t, "(f())", call("f", 1))
}

// tokenTexts are texts of tokens of each kind: each sign, and a Num of 0 and above 0.
var tokenTexts = []string{"a", "0", "2", "'t'", "#00000000000000ff", "(", ")", ",", "|", "-", "&", "!", "^", "..", "::"}

// P23.1: each token alone, and each two, three and four of them side by side.
func TestTokensSideBySide(t *testing.T) {
	for i, s := range tokenTexts {
		switch {
		case i < 5:
			wantSame(t, s)
			wantSame(t, s+"^")
			wantSyntax(t, s+" "+s, len(s)+1)
		case s == "(" || s == "!":
			wantSyntax(t, s, 1)
			wantSyntax(t, " "+s+" ", 3)
			wantSyntax(t, s+s, 2)
		default:
			wantSyntax(t, s, 0)
			wantSyntax(t, " "+s+" ", 1)
			wantSyntax(t, s+s, 0)
		}
	}
	for _, a := range tokenTexts {
		for _, b := range tokenTexts {
			hold(t, a+" "+b)
			for _, c := range tokenTexts {
				hold(t, a+" "+b+"\t"+c)
				for _, d := range tokenTexts {
					hold(t, a+" "+b+" "+c+" "+d)
				}
			}
		}
	}
}

// P23.1: two atoms side by side are no expr.
func TestAtomsSideBySide(t *testing.T) {
	for _, a := range []string{"a", "7", "'t'", leastHash, "(a)", "f()"} {
		for _, b := range []string{"b", "0", "3", "'u'", greatestHash, "!b"} {
			wantSyntax(t, a+" "+b, len(a)+1)
			wantSyntax(t, "("+a+" "+b+")", len(a)+2)
			wantSyntax(t, "f("+a+" "+b+")", len(a)+3)
			wantSyntax(t, "x|"+a+" "+b+"|y", len(a)+3)
			wantSyntax(t, a+"^3 "+b, len(a)+3)
		}
	}
}

// P23.1: each sign between two names, with and without blanks; at an end it wants more.
func TestSigns(t *testing.T) {
	for _, b := range betweenSigns {
		size := len(b.sign)
		wantNode(t, "a"+b.sign+"b", two(b.op, 1, name("a", 0), name("b", 1+size)))
		wantNode(t, " a  "+b.sign+"\tb ", two(b.op, 4, name("a", 1), name("b", 5+size)))
		wantShown(t, "a "+b.sign+" b", "a"+b.shown+"b")
		wantSyntax(t, b.sign, 0)
		wantSyntax(t, b.sign+"a", 0)
		wantSyntax(t, "a"+b.sign, 1+size)
		wantSyntax(t, "a"+b.sign+"  ", 3+size)
		wantSyntax(t, "a"+b.sign+")", 1+size)
		wantSyntax(t, "a"+b.sign+","+"b", 1+size)
		wantSyntax(t, "a"+b.sign+b.sign+"b", 1+size)
		wantSyntax(t, "(a"+b.sign+")", 2+size)
		wantSyntax(t, "!"+b.sign+"a", 1)
		wantNode(t, "a^"+b.sign+"b^", two(b.op, 2, up(0, 1, name("a", 0)), up(0, 3+size, name("b", 2+size))))
	}
}

// P23.1: two signs between three: the one of the higher level binds, of one level the first; two of `..` and `::` make no row.
func TestTwoSigns(t *testing.T) {
	a := name("a", 0)
	for _, one := range betweenSigns {
		for _, other := range betweenSigns {
			s := "a" + one.sign + "b" + other.sign + "c"
			at := 2 + len(one.sign)
			b, c := name("b", at-1), name("c", at+len(other.sign))
			switch {
			case one.level == 3 && other.level == 3:
				wantSyntax(t, s, at)
			case other.level > one.level:
				wantNode(t, s, two(one.op, 1, a, two(other.op, at, b, c)))
			default:
				wantNode(t, s, two(other.op, at, two(one.op, 1, a, b), c))
			}
			wantNode(t, "(a"+one.sign+"b)"+other.sign+"c", two(other.op, at+2, two(one.op, 2, name("a", 1), name("b", at)), name("c", at+2+len(other.sign))))
			wantNode(t, "a"+one.sign+"(b"+other.sign+"c)", two(one.op, 1, a, two(other.op, at+1, name("b", at), name("c", at+1+len(other.sign)))))
		}
	}
}

// P23.1, P23.2: rows are read from the left; what stands on the right in brackets stays there.
func TestRows(t *testing.T) {
	wantNode(t, "a-b-c", two(OpMinus, 3, two(OpMinus, 1, name("a", 0), name("b", 2)), name("c", 4)))
	for _, s := range []string{"a | b | c | d", "a - b - c - d", "a & b & c & d", "a | b - c | d - e", "a - b | c - d | e", "a - b & c - d", "a & b | c & d - e & f", "a..b & c::d & e", "a..b | c::d - e"} {
		wantSame(t, s)
		wantShown(t, strings.ReplaceAll(s, " ", ""), s)
	}
	for _, s := range []string{"a | (b | c)", "a - (b - c)", "a & (b & c)", "a - (b | c)", "a | (b - c)", "a - (b - (c - d))", "a | b - (c | d) - e"} {
		wantSame(t, s)
	}
	wantShown(t, "((a|b)|c)|d", "a | b | c | d")
	wantShown(t, "(((a-b)|c)-d)", "a - b | c - d")
	wantShown(t, "(a&b)&(c&d)", "a & b & (c & d)")
	wantShown(t, "a|(b&c)", "a | b & c")
	wantShown(t, "(a|b)&c", "(a | b) & c")
	wantShown(t, "a&(b|c)&d", "a & (b | c) & d")
	wantShown(t, "(a..b)&(c::d)", "a..b & c::d")
}

// P23.1: `..` and `::` stand once in a range; in brackets they are an atom.
func TestRanges(t *testing.T) {
	wantSyntax(t, "a..b..c", 4)
	wantSyntax(t, "a::b::c", 4)
	wantSyntax(t, "a..b::c", 4)
	wantSyntax(t, "a::b..c", 4)
	wantSyntax(t, "(a..b..c)", 5)
	wantSyntax(t, "x|a..b::c", 6)
	wantSyntax(t, "f(a..b..c)", 6)
	wantSyntax(t, "!a..b..c", 5)
	wantSyntax(t, "a..!b::c", 5)
	wantSyntax(t, "a..b^2..c", 6)
	wantSyntax(t, "a..(b)..c", 6)
	wantSyntax(t, "a..", 3)
	wantSyntax(t, "..a", 0)
	wantSyntax(t, "a....b", 3)
	wantSyntax(t, "a..::b", 3)
	wantSame(t, "(a..b)..c")
	wantSame(t, "a..(b..c)")
	wantSame(t, "(a::b)..(c..d)")
	wantSame(t, "((a..b)..c)::d")
	wantSame(t, "a..b & c..d")
	wantSame(t, "f(a..b, c..d)..e")
	wantShown(t, "(a)..(b)", "a..b")
	wantNode(t, "a..b&c", two(OpAnd, 4, two(OpRange, 1, name("a", 0), name("b", 3)), name("c", 5)))
	wantNode(t, "1..2", two(OpRange, 1, num(1, 0), num(2, 3)))
}

// P23.1: `!` binds less than `^`, more than a range.
func TestNots(t *testing.T) {
	wantNode(t, "!a", not(0, name("a", 1)))
	wantNode(t, " ! a", not(1, name("a", 3)))
	wantNode(t, "!!!a", not(0, not(1, not(2, name("a", 3)))))
	wantNode(t, "!a^", not(0, up(0, 2, name("a", 1))))
	wantNode(t, "!a^^3", not(0, up(3, 3, up(0, 2, name("a", 1)))))
	wantNode(t, "(!a)^", up(0, 4, not(1, name("a", 2))))
	wantNode(t, "!(a)", not(0, name("a", 2)))
	wantNode(t, "!(a|b)", not(0, two(OpOr, 3, name("a", 2), name("b", 4))))
	wantNode(t, "!a..b", two(OpRange, 2, not(0, name("a", 1)), name("b", 4)))
	wantNode(t, "!a::!!b", two(OpBetween, 2, not(0, name("a", 1)), not(4, not(5, name("b", 6)))))
	wantNode(t, "!(a..b)", not(0, two(OpRange, 3, name("a", 2), name("b", 5))))
	wantNode(t, "!a|!b", two(OpOr, 2, not(0, name("a", 1)), not(3, name("b", 4))))
	wantNode(t, "!f(!a)", not(0, call("f", 1, not(3, name("a", 4)))))
	wantNode(t, "!0", not(0, num(0, 1)))
	wantSyntax(t, "!", 1)
	wantSyntax(t, "! ", 2)
	wantSyntax(t, "!!", 2)
	wantSyntax(t, "!)", 1)
	wantSyntax(t, "!^", 1)
	wantSyntax(t, "!|a", 1)
	wantSyntax(t, "!,", 1)
	wantSyntax(t, "a!", 1)
	wantSyntax(t, "a!b", 1)
	wantSyntax(t, "a^!b", 2)
	wantSyntax(t, "(a)!b", 3)
}

// P23.1: a Num above 0 behind a `^` is its own; a 0 can't stand there, nor a second Num.
func TestUps(t *testing.T) {
	wantNode(t, "a^", up(0, 1, name("a", 0)))
	wantNode(t, "a^1", up(1, 1, name("a", 0)))
	wantNode(t, "a ^\t1 ", up(1, 2, name("a", 0)))
	wantNode(t, "a^999999999", up(999999999, 1, name("a", 0)))
	wantNode(t, "a^^", up(0, 2, up(0, 1, name("a", 0))))
	wantNode(t, "a^^2^3^", up(0, 6, up(3, 4, up(2, 2, up(0, 1, name("a", 0))))))
	wantNode(t, "a^^1", up(1, 2, up(0, 1, name("a", 0))))
	wantNode(t, "a^1^", up(0, 3, up(1, 1, name("a", 0))))
	wantNode(t, "(a|b)^2", up(2, 5, two(OpOr, 2, name("a", 1), name("b", 3))))
	wantNode(t, "((a^)^1)^2", up(2, 8, up(1, 5, up(0, 3, name("a", 2)))))
	wantNode(t, "f()^3", up(3, 3, call("f", 0)))
	wantNode(t, "0^3", up(3, 1, num(0, 0)))
	wantNode(t, "2^3^4", up(4, 3, up(3, 1, num(2, 0))))
	wantNode(t, "a^..1", two(OpRange, 2, up(0, 1, name("a", 0)), num(1, 4)))
	wantNode(t, "a^-1", two(OpMinus, 2, up(0, 1, name("a", 0)), num(1, 3)))
	wantSyntax(t, "a^0", 2)
	wantSyntax(t, "a^ 0 ", 3)
	wantSyntax(t, "a^^0", 3)
	wantSyntax(t, "a^1 0", 4)
	wantSyntax(t, "a^1^0", 4)
	wantSyntax(t, "(a^0)", 3)
	wantSyntax(t, "f(a^0,", 4)
	wantSyntax(t, "a^0^", 2)
	wantSyntax(t, "a^2 3", 4)
	wantSyntax(t, "a^999999999 1", 12)
	wantSyntax(t, "a^(1)", 2)
	wantSyntax(t, "a^b", 2)
	wantSyntax(t, "a^'b'", 2)
	wantSyntax(t, "a^"+leastHash, 2)
	wantSyntax(t, "^", 0)
	wantSyntax(t, "^2", 0)
	wantSyntax(t, "a|^", 2)
	wantSyntax(t, "(^a)", 1)
	wantError(t, "a^01", 2, api.ErrToken)
	wantError(t, "a^1000000000", 2, api.ErrToken)
}

// P23.1: a Num, a Text and a Hash are atoms wherever an atom may stand.
func TestAtomsEverywhere(t *testing.T) {
	atoms := map[string]func(at int) Node{
		"a":                 func(at int) Node { return name("a", at) },
		"0":                 func(at int) Node { return num(0, at) },
		"12":                func(at int) Node { return num(12, at) },
		"''":                func(at int) Node { return text("", at) },
		"'a, b'":            func(at int) Node { return text("a, b", at) },
		"#00000000000000ff": func(at int) Node { return hash(255, at) },
		"g()":               func(at int) Node { return call("g", at) },
	}
	for s, atom := range atoms {
		size := len(s)
		wantNode(t, s, atom(0))
		wantNode(t, "("+s+")", atom(1))
		wantNode(t, "!"+s, not(0, atom(1)))
		wantNode(t, s+"^5", up(5, size, atom(0)))
		wantNode(t, "f("+s+")", call("f", 0, atom(2)))
		wantNode(t, "f(x,"+s+")", call("f", 0, name("x", 2), atom(4)))
		for _, b := range betweenSigns {
			wantNode(t, s+b.sign+s, two(b.op, size, atom(0), atom(size+len(b.sign))))
			wantNode(t, "f("+s+b.sign+s+")", call("f", 0, two(b.op, 2+size, atom(2), atom(2+size+len(b.sign)))))
		}
	}
}

// P23.1: a Name and a bracket are a call, whatever blanks stand between; nothing else is.
func TestCalls(t *testing.T) {
	wantNode(t, "f()", call("f", 0))
	wantNode(t, " f\t( ) ", call("f", 1))
	wantNode(t, "f(a)", call("f", 0, name("a", 2)))
	wantNode(t, "f (a , b,c)", call("f", 0, name("a", 3), name("b", 7), name("c", 9)))
	wantNode(t, "f(a|b,!c)", call("f", 0, two(OpOr, 3, name("a", 2), name("b", 4)), not(6, name("c", 7))))
	wantNode(t, "f((a),(b))", call("f", 0, name("a", 3), name("b", 7)))
	wantNode(t, "f(g(),h(a,g(b)))", call("f", 0, call("g", 2), call("h", 6, name("a", 8), call("g", 10, name("b", 12)))))
	wantNode(t, "f(f(f()))", call("f", 0, call("f", 2, call("f", 4))))
	wantNode(t, "f()|f", two(OpOr, 3, call("f", 0), name("f", 4)))
	many := strings.Repeat("a,", 510) + "a"
	n, at, e := Parse("f(" + many + ")")
	if e != api.OK || at != 0 || len(n.Kids) != 511 || len(Show(n)) != 3+511+2*510 || n.Kids[510].At != 1022 {
		t.Error(len(n.Kids), at, e)
	}
	wantSyntax(t, "f(,)", 2)
	wantSyntax(t, "f(,a)", 2)
	wantSyntax(t, "f(a,)", 4)
	wantSyntax(t, "f(a, )", 5)
	wantSyntax(t, "f(a,,b)", 4)
	wantSyntax(t, "f(a,b", 5)
	wantSyntax(t, "f(a,", 4)
	wantSyntax(t, "f(a", 3)
	wantSyntax(t, "f(a ", 4)
	wantSyntax(t, "f(", 2)
	wantSyntax(t, "f(g(a)", 6)
	wantSyntax(t, "f(a))", 4)
	wantSyntax(t, "f)", 1)
	wantSyntax(t, "f(a b)", 4)
	wantSyntax(t, "f()()", 3)
	wantSyntax(t, "f()(a)", 3)
	wantSyntax(t, "f() a", 4)
	wantSyntax(t, "1(a)", 1)
	wantSyntax(t, "'f'(a)", 3)
	wantSyntax(t, leastHash+"(a)", 17)
	wantSyntax(t, "(f)(a)", 3)
	wantSyntax(t, "a^(b)", 2)
	wantSyntax(t, "a^2(b)", 3)
	wantSyntax(t, "a,b", 1)
	wantSyntax(t, "(a,b)", 2)
	wantSyntax(t, "f((a,b))", 4)
	wantSyntax(t, ",", 0)
}

// P23.1: brackets are no node of their own.
func TestBrackets(t *testing.T) {
	wantNode(t, "((a))", name("a", 2))
	wantNode(t, " ( ( a ) ) ", name("a", 5))
	wantNode(t, "(((a|b)))", two(OpOr, 4, name("a", 3), name("b", 5)))
	wantNode(t, "(a)|(b)", two(OpOr, 3, name("a", 1), name("b", 5)))
	for _, n := range []int{23, 24, 25, 500, 511} {
		wantNode(t, strings.Repeat("(", n)+"a"+strings.Repeat(")", n), name("a", n))
	}
	wantSyntax(t, "()", 1)
	wantSyntax(t, "( )", 2)
	wantSyntax(t, "(())", 2)
	wantSyntax(t, "a|()", 3)
	wantSyntax(t, "(", 1)
	wantSyntax(t, "((", 2)
	wantSyntax(t, "(a", 2)
	wantSyntax(t, "((a)", 4)
	wantSyntax(t, "(a|b", 4)
	wantSyntax(t, "(a|b ", 5)
	wantSyntax(t, ")", 0)
	wantSyntax(t, "a)", 1)
	wantSyntax(t, "(a))", 3)
	wantSyntax(t, "a|b)|c", 3)
	wantSyntax(t, ")a(", 0)
	wantSyntax(t, "(a(b)", 5)
	wantSyntax(t, "((a)(b))", 4)
	wantError(t, strings.Repeat("(", 1024), 1024, api.ErrSyntax)
	wantError(t, strings.Repeat("(", 1023)+")", 1023, api.ErrSyntax)
	wantError(t, strings.Repeat("(", 1023)+"a", 1024, api.ErrSyntax)
	wantError(t, strings.Repeat("f(", 512), 1024, api.ErrSyntax)
	wantError(t, strings.Repeat("!", 1024), 1024, api.ErrSyntax)
}

// deepTexts are texts of a depth, each deep in another way.
func deepTexts(depth int) map[string]string {
	n := depth - 1
	texts := map[string]string{
		"nots":             strings.Repeat("!", n) + "a",
		"calls":            strings.Repeat("f(", n) + "a" + strings.Repeat(")", n),
		"empty calls":      strings.Repeat("f(", n) + "f()" + strings.Repeat(")", n),
		"last Kids":        strings.Repeat("f(a, b,", n) + "c" + strings.Repeat(")", n),
		"first Kids":       strings.Repeat("f(", n) + "c" + strings.Repeat(", a, b)", n),
		"ups":              "a" + strings.Repeat("^", n),
		"ups with numbers": "a" + strings.Repeat("^7", n),
		"nots in brackets": strings.Repeat("!(", n) + "a" + strings.Repeat(")", n),
		"mixed":            strings.Repeat("!", n/2) + "a" + strings.Repeat("^", n-n/2),
	}
	for _, b := range betweenSigns {
		if b.level < 3 {
			texts["a row of "+b.sign] = "a" + strings.Repeat(b.sign+"a", n)
		}
		texts["brackets on the left of "+b.sign] = strings.Repeat("(", n) + "a" + strings.Repeat(b.sign+"a)", n)
		texts["brackets on the right of "+b.sign] = strings.Repeat("(a"+b.sign, n) + "a" + strings.Repeat(")", n)
		texts["deep beside "+b.sign] = "a" + b.sign + strings.Repeat("!", n-1) + "a"
		texts["deep ahead of "+b.sign] = strings.Repeat("!", n-1) + "a" + b.sign + "a"
	}
	return texts
}

// P23.1: the depth is at most 24, whatever makes it; brackets don't.
func TestDepths(t *testing.T) {
	for _, depth := range []int{2, 3, 22, 23, 24, 25, 26, 40, 100} {
		for how, s := range deepTexts(depth) {
			if len(s) > 1024 {
				wantError(t, s, 0, api.ErrLong)
				continue
			}
			t.Log(depth, how)
			wantDepth(t, s, depth)
			if len(s) > 1020 {
				continue
			}
			wantDepth(t, "(("+s+"))", depth)
			wantDepth(t, "!("+s+")", depth+1)
			wantDepth(t, "f("+s+")", depth+1)
			wantDepth(t, "("+s+")^", depth+1)
		}
	}
	wantDepth(t, "a", 1)
	wantDepth(t, "f()", 1)
	wantDepth(t, strings.Repeat("!", 1023)+"a", 1024)
	wantDepth(t, "a"+strings.Repeat("^", 1023), 1024)
	wantDepth(t, "a"+strings.Repeat("-a", 511), 512)
	wantDepth(t, strings.Repeat("(", 20)+strings.Repeat("!", 23)+"a"+strings.Repeat(")", 20), 24)
	// The depth is that of the deepest Kid, wherever it stands.
	wantDepth(t, "f(a,"+strings.Repeat("!", 22)+"a,b)", 24)
	wantDepth(t, "f(a,"+strings.Repeat("!", 23)+"a,b)", 25)
	wantDepth(t, "f("+strings.Repeat("!!!!!a,", 30)+"b)", 7)
}

// P23.1: a text that is too deep and no expr is no expr; a token that is none comes ahead of both, and too long a text ahead of all.
func TestWhichError(t *testing.T) {
	for _, depth := range []int{24, 25, 60} {
		for _, s := range deepTexts(depth) {
			if len(s) > 1000 {
				continue
			}
			wantError(t, s+")", len(s), api.ErrSyntax)
			wantError(t, s+" a", len(s)+1, api.ErrSyntax)
			wantError(t, s+"|", len(s)+1, api.ErrSyntax)
			wantError(t, "("+s, len(s)+1, api.ErrSyntax)
			wantError(t, ")"+s, 0, api.ErrSyntax)
			wantError(t, s+"$", len(s), api.ErrToken)
			wantError(t, s+")$", len(s)+1, api.ErrToken)
			wantError(t, "|"+s+" A", len(s)+2, api.ErrToken)
			wantError(t, s+strings.Repeat(" ", 1025-len(s)), 0, api.ErrLong)
		}
	}
	wantError(t, "a $", 2, api.ErrToken)
	wantError(t, "|| $", 3, api.ErrToken)
	wantError(t, "a b .", 4, api.ErrToken)
	wantError(t, "'", 0, api.ErrToken)
	wantError(t, ")) '", 3, api.ErrToken)
	wantError(t, "a..b...c", 6, api.ErrToken)
	wantError(t, "a\n", 1, api.ErrToken)
	wantError(t, "a|012", 2, api.ErrToken)
	wantError(t, "a|abcdefghijklmnopq", 2, api.ErrToken)
	wantError(t, "(#012", 1, api.ErrToken)
	wantError(t, strings.Repeat(")", 1024), 0, api.ErrSyntax)
	wantError(t, strings.Repeat(")", 1025), 0, api.ErrLong)
	wantError(t, strings.Repeat("!", 1025), 0, api.ErrLong)
	wantError(t, strings.Repeat("$", 1025), 0, api.ErrLong)
	wantError(t, strings.Repeat("a", 1025), 0, api.ErrLong)
	wantError(t, "a"+strings.Repeat(" ", 1024), 0, api.ErrLong)
	wantError(t, strings.Repeat("a", 1<<20), 0, api.ErrLong)
	wantError(t, "$", 0, api.ErrToken)
	wantError(t, "A", 0, api.ErrToken)
}

// P23.1: the place is that of the first token that can't stand there, or len(s), where more is wanted.
func TestErrorPlaces(t *testing.T) {
	wantSyntax(t, "|", 0)
	wantSyntax(t, "  | a", 2)
	wantSyntax(t, "a | | b", 4)
	wantSyntax(t, "a & - b", 4)
	wantSyntax(t, "a b c )", 2)
	wantSyntax(t, "(a b", 3)
	wantSyntax(t, "a |", 3)
	wantSyntax(t, "a |  ", 5)
	wantSyntax(t, "a |\t", 4)
	wantSyntax(t, "( ", 2)
	wantSyntax(t, "f( ", 3)
	wantSyntax(t, "f(a  ", 5)
	wantSyntax(t, "f(a,  ", 6)
	wantSyntax(t, "a..  ", 5)
	wantSyntax(t, "!  ", 3)
	wantSyntax(t, "'a|' 'b'", 5)
	wantSyntax(t, "'a' |", 5)
	wantSyntax(t, "a|b|c|d|e f|", 10)
	wantSyntax(t, "a..b|c..d|e..f..g", 14)
	wantSyntax(t, "a|"+strings.Repeat(" ", 1022), 1024)
	wantSyntax(t, "a"+strings.Repeat(" ", 1022)+"b", 1023)
	// What is refused is refused wherever it stands, and whatever comes behind it.
	for _, ahead := range []string{"", "x|", "x - y &", "x..", "!", "(", "f(", "f(x, ", "((!f(x::"} {
		for _, behind := range []string{"", " ", "|x", ")", "))", ", x)", " x y", "^0"} {
			for _, wrong := range []string{"|", ")|", "a b", "a^0", "a^ b", "a!", "(a b", "f(,", "()"} {
				hold(t, ahead+wrong+behind)
			}
		}
	}
}

// P23.1: At is the place of the token that makes the node, with blanks and brackets ahead of it or without.
func TestPlaces(t *testing.T) {
	for _, b := range betweenSigns {
		end := len(b.sign)
		wantNode(t, " (\ta  "+b.sign+"  (b) ) ", two(b.op, 6, name("a", 3), name("b", 9+end)))
		wantNode(t, "((a)  "+b.sign+"b)", two(b.op, 6, name("a", 2), name("b", 6+end)))
	}
	wantNode(t, " ( ! ( ! a ) )", not(3, not(7, name("a", 9))))
	wantNode(t, " ( a ) ^ 3 ^", up(0, 11, up(3, 7, name("a", 3))))
	wantNode(t, " ( f ( ( a ) , 'b' ) )", call("f", 3, name("a", 9), text("b", 15)))
	wantNode(t, " ( 7 )", num(7, 3))
	wantNode(t, " ( 'x' )", text("x", 3))
	wantNode(t, " ( "+leastHash+" )", hash(0, 3))
	wantNode(t, " a - f(b) ^7", two(OpMinus, 3, name("a", 1), up(7, 10, call("f", 5, name("b", 7)))))
}

// kinds are nodes of each kind, by the texts that they have.
func kinds() []Node {
	a, b := name("a", 0), name("b", 0)
	nodes := []Node{a, num(0, 0), num(12, 0), text("x y", 0), hash(255, 0), call("f", 0), call("f", 0, a), call("f", 0, a, b)}
	for _, between := range betweenSigns {
		nodes = append(nodes, two(between.op, 0, a, b))
	}
	return append(nodes, not(0, a), up(0, 0, a), up(1, 0, a), up(999999999, 0, a))
}

// P23.2: the text of each kind of node.
func TestShow(t *testing.T) {
	want := []string{"a", "0", "12", "'x y'", "#00000000000000ff", "f()", "f(a)", "f(a, b)", "a | b", "a - b", "a & b", "a..b", "a::b", "!a", "a^", "a^1", "a^999999999"}
	for i, n := range kinds() {
		if shown := Show(n); shown != want[i] {
			t.Errorf("%q, want %q", shown, want[i])
		}
		holdShown(t, n)
		wantSame(t, want[i])
	}
	for _, id := range []api.ID{0, 1, 1 << 63, math.MaxUint64, 0x0123456789abcdef} {
		holdShown(t, hash(id, 0))
		holdShown(t, two(OpRange, 0, hash(id, 0), hash(^id, 0)))
	}
	if least, greatest := Show(hash(0, 0)), Show(hash(math.MaxUint64, 0)); least != leastHash || greatest != greatestHash {
		t.Error(least, greatest)
	}
	wantShown(t, "f ( ) ", "f()")
	wantShown(t, "f(a|b,'x y' , 12)", "f(a | b, 'x y', 12)")
	wantSame(t, "f(f(a))^1")
	wantSame(t, "!a..!b")
}

// P23.2: a Text may have all bytes but 39 and 10.
func TestShowOfTexts(t *testing.T) {
	all := ""
	for b := range 256 {
		if b == 39 || b == 10 {
			continue
		}
		one := string([]byte{byte(b)})
		all += one
		wantNode(t, "'"+one+"'", text(one, 0))
		wantSame(t, "f('"+one+"', '"+one+one+"')")
	}
	wantNode(t, "'"+all+"'", text(all, 0))
	wantSame(t, "'"+all+"' | '"+all+"'")
	for _, s := range []string{"", " ", "a | b", "a..b", ") | (", "!", "#", ", ", "a^2", "é", "\xff\xfe"} {
		wantNode(t, "'"+s+"'", text(s, 0))
		holdShown(t, call("f", 0, text(s, 0), text(s, 0)))
		holdShown(t, not(0, up(3, 0, text(s, 0))))
	}
	most := strings.Repeat("x", 1022)
	wantNode(t, "'"+most+"'", text(most, 0))
}

// P23.2: each kind of Kid in each place: in brackets, where its level is too low.
func TestShowOfKids(t *testing.T) {
	bracketed := map[Op][]string{
		OpOr:      {"", "| -"},
		OpMinus:   {"", "| -"},
		OpAnd:     {"| -", "| - &"},
		OpRange:   {"| - & .. ::", "| - & .. ::"},
		OpBetween: {"| - & .. ::", "| - & .. ::"},
		OpNot:     {"| - & .. ::"},
		OpUp:      {"| - & .. :: !"},
		OpCall:    {"", ""},
	}
	signOf := map[Op]string{OpOr: "|", OpMinus: "-", OpAnd: "&", OpRange: "..", OpBetween: "::", OpNot: "!", OpUp: "^"}
	c := name("c", 0)
	for _, kid := range kinds() {
		within := func(op Op, place int) string {
			if sign := signOf[kid.Op]; sign != "" && slices.Contains(strings.Fields(bracketed[op][place]), sign) {
				return "(" + Show(kid) + ")"
			}
			return Show(kid)
		}
		check := func(n Node, want string) {
			t.Helper()
			if shown := Show(n); shown != want {
				t.Errorf("%q, want %q", shown, want)
			}
			holdShown(t, n)
		}
		for _, b := range betweenSigns {
			check(two(b.op, 0, kid, c), within(b.op, 0)+b.shown+"c")
			check(two(b.op, 0, c, kid), "c"+b.shown+within(b.op, 1))
			check(two(b.op, 0, kid, kid), within(b.op, 0)+b.shown+within(b.op, 1))
		}
		check(not(0, kid), "!"+within(OpNot, 0))
		check(up(0, 0, kid), within(OpUp, 0)+"^")
		check(up(12, 0, kid), within(OpUp, 0)+"^12")
		check(call("f", 0, kid), "f("+Show(kid)+")")
		check(call("f", 0, c, kid, c), "f(c, "+Show(kid)+", c)")
	}
}

// P23.2: three deep, each kind in each place of each other one.
func TestShowOfThree(t *testing.T) {
	above := func(kid Node) []Node {
		c := name("c", 0)
		nodes := []Node{not(0, kid), up(0, 0, kid), up(2, 0, kid), call("g", 0, c, kid)}
		for _, b := range betweenSigns {
			nodes = append(nodes, two(b.op, 0, kid, c), two(b.op, 0, c, kid))
		}
		return nodes
	}
	for _, low := range kinds() {
		for _, middle := range above(low) {
			for _, high := range above(middle) {
				holdShown(t, high)
			}
		}
	}
}

// P23.2: what Parse answers may be shown longer than a text may be; Parse refuses that.
func TestShowOfLong(t *testing.T) {
	for _, s := range []string{"f(" + strings.Repeat("a,", 510) + "a)", "f(" + strings.Repeat("a|a,", 255) + "a)"} {
		n, at, e := Parse(s)
		if e != api.OK || at != 0 || len(Show(n)) <= 1024 {
			t.Fatal(at, e, len(Show(n)))
		}
		holdShown(t, n)
	}
	for kids := 330; kids <= 350; kids++ {
		n, _, e := Parse("f(" + strings.Repeat("a,", kids-1) + "a)")
		if e != api.OK {
			t.Fatal(e)
		}
		holdShown(t, n)
	}
}

// Rule 5: Show ends for nodes that Parse never answers.
func TestShowEnds(t *testing.T) {
	a := name("a", 0)
	deep := func(depth int) Node {
		n := a
		for range depth - 1 {
			n = not(0, n)
		}
		return n
	}
	ops := []Op{math.MinInt, -1, 0, 13, 14, math.MaxInt}
	for op := OpName; op <= OpUp; op++ {
		ops = append(ops, op)
	}
	for _, op := range ops {
		for _, kids := range [][]Node{nil, {}, {a}, {a, a}, {a, a, a}, {{}}, {{Op: 99}, {Op: -1, Kids: []Node{a}}}, slices.Repeat([]Node{a}, 5000), {deep(25), deep(1000)}} {
			for _, s := range []string{"", "a", "'", "\n", "(|)", strings.Repeat("x", 3000)} {
				for _, n := range []int{math.MinInt, -1, 0, 1 << 40, math.MaxInt} {
					shown := Show(Node{Op: op, Text: s, Num: n, ID: api.ID(n), Kids: kids, At: n})
					Parse(shown)
				}
			}
		}
	}
	for _, depth := range []int{25, 26, 100, 1023, 1024} {
		shown := Show(deep(depth))
		if shown != strings.Repeat("!", depth-1)+"a" {
			t.Errorf("depth %d: %.100q", depth, shown)
		}
		wantDeep(t, shown)
	}
	Show(deep(1 << 16))
	Show(deep(1 << 20))
}

// Rule 5: Show ends for nodes that hold themselves, and for such as hold one list so often that it never could be written.
func TestShowOfEndless(t *testing.T) {
	long := strings.Repeat("f", 1<<20)
	for op := Op(0); op <= 13; op++ {
		for _, count := range []int{1, 2, 3, 1000, 1 << 17} {
			kids := make([]Node, count)
			for i := range kids {
				kids[i] = Node{Op: op, Text: long, Num: 3, Kids: kids}
			}
			Show(kids[0])
			Show(Node{Op: OpCall, Text: "g", Kids: kids})
		}
		n := name("a", 0)
		for range 100 {
			n = Node{Op: op, Text: "f", Kids: []Node{n, n}}
		}
		Show(n)
	}
}

// P23.3: a node OpCall with that Text and those Kids, At 0, and nothing else.
func TestCall(t *testing.T) {
	a, b := name("a", 7), two(OpOr, 9, name("b", 8), call("g", 10, num(3, 12)))
	for _, c := range []struct {
		got, want Node
		shown     string
	}{
		{Call("f"), Node{Op: OpCall, Text: "f"}, "f()"},
		{Call("f", []Node{}...), Node{Op: OpCall, Text: "f"}, "f()"},
		{Call("f", a), Node{Op: OpCall, Text: "f", Kids: []Node{a}}, "f(a)"},
		{Call("f", a, b), Node{Op: OpCall, Text: "f", Kids: []Node{a, b}}, "f(a, b | g(3))"},
		{Call("f", b, a, b, a), Node{Op: OpCall, Text: "f", Kids: []Node{b, a, b, a}}, "f(b | g(3), a, b | g(3), a)"},
		{Call("f", Call("g", Call("h")), a), Node{Op: OpCall, Text: "f", Kids: []Node{{Op: OpCall, Text: "g", Kids: []Node{{Op: OpCall, Text: "h"}}}, a}}, "f(g(h()), a)"},
	} {
		if !equal(c.got, c.want) || Show(c.got) != c.shown {
			t.Errorf("%s, %q, want %s, %q", told(c.got), Show(c.got), told(c.want), c.shown)
		}
		holdShown(t, c.got)
	}
	for _, kid := range kinds() {
		kid.At = 5
		n := Call("union", kid, a, kid)
		if !equal(n, Node{Op: OpCall, Text: "union", Kids: []Node{kid, a, kid}}) {
			t.Errorf("%s", told(n))
		}
		holdShown(t, n)
	}
	// The name and the Kids are taken as they are, whatever they are.
	for _, s := range []string{"", "F", "a b", "'", "\n", strings.Repeat("f", 5000)} {
		odd := Node{Op: 77, Text: s, Num: -1, ID: 5, Kids: []Node{{Op: -3}}, At: -9}
		if n := Call(s, odd, Node{}); !equal(n, Node{Op: OpCall, Text: s, Kids: []Node{odd, {}}}) {
			t.Errorf("%s", told(n))
		}
	}
	many := slices.Repeat([]Node{a}, 5000)
	if n := Call("f", many...); !equal(n, Node{Op: OpCall, Text: "f", Kids: many}) || Show(n) != "f("+strings.Repeat("a, ", 4999)+"a)" {
		t.Error("many Kids")
	}
	n := a
	for range 24 {
		n = Call("f", n)
	}
	if want := strings.Repeat("f(", 24) + "a" + strings.Repeat(")", 24); Show(n) != want || depthOf(n) != 25 {
		t.Errorf("%q", Show(n))
	}
	wantDeep(t, Show(n))
	holdShown(t, n.Kids[0])
}

// everyRow calls do with all rows of these pieces, up to most of them, with blanks between.
func everyRow(pieces []string, most int, do func(string)) {
	rows := []string{""}
	for range most + 1 {
		var next []string
		for _, row := range rows {
			do(row)
			for _, piece := range pieces {
				next = append(next, row+piece+" ")
			}
		}
		rows = next
	}
}

// P23.1, P23.2: all texts of some few tokens.
func TestAllTexts(t *testing.T) {
	check := func(s string) { hold(t, s) }
	everyRow([]string{"a", "(", ")", ",", "|"}, 6, check)
	everyRow([]string{"a", "!", "^", "1", ".."}, 6, check)
	everyRow([]string{"a", "|", "-", "&", "::"}, 6, check)
	everyRow([]string{"a", "(", ")", "^", "0", "2"}, 5, check)
	everyRow([]string{"(a", "a)", "|", "&", "..", "!"}, 5, check)
	everyRow([]string{"f(", ")", "a", ",", "-", "'x'"}, 5, check)
	everyRow([]string{"a|", "b&", "c-", "d..", "e::", "!", "f^", "(g)"}, 4, check)
}

// between puts a blank between two texts where else they would be one token, and elsewhere one, some or none.
func between(r *rand.Rand, a, b string) string {
	joined, _, _ := lex.Scan(a + b)
	apart, _, e := lex.Scan(a + " " + b)
	if e == api.OK && len(joined) == len(apart) && r.Intn(2) == 0 {
		return ""
	}
	return []string{" ", " ", "\t", "  \t "}[r.Intn(4)]
}

// P23.1, P23.2: random rows of tokens, and of pieces that are more often an expr.
func TestRandomTokens(t *testing.T) {
	pieces := []string{"a|", "b -", "c &", "!", "(", "(", ")", ")", "f(", "g(", ", ", "x", "y", "z^", "w^3", "d..", "e::", "'t'", "7", "#00000000000000ff", "(a..b)", "(a|b)", "f()", "&h"}
	for seed := range int64(15000) {
		r := rand.New(rand.NewSource(seed))
		s := ""
		for range r.Intn(14) {
			next := pieces[r.Intn(len(pieces))]
			if seed%3 == 0 {
				next = tokenTexts[r.Intn(len(tokenTexts))]
			}
			s += between(r, s, next) + next
		}
		hold(t, s)
	}
}

// randomNode is a node that Parse may answer, but for its places: of at most about so many nodes.
func randomNode(r *rand.Rand, size int) Node {
	if size <= 1 {
		switch r.Intn(7) {
		case 0:
			return num(r.Intn(int(math.Pow10(r.Intn(10)))), 0)
		case 1:
			return text([]string{"", "a/b", "x, y", "(", "|", "\x00\xff", "!a"}[r.Intn(7)], 0)
		case 2:
			return hash(api.ID(r.Uint64()>>r.Intn(64)), 0)
		case 3:
			return call([]string{"f", "all", "none"}[r.Intn(3)], 0)
		}
		return name([]string{"a", "b", "main", "x_1", "abcdefghijklmnop"}[r.Intn(5)], 0)
	}
	switch r.Intn(8) {
	case 0:
		return not(0, randomNode(r, size-1))
	case 1:
		return up(r.Intn(2)*r.Intn(int(math.Pow10(r.Intn(10)))), 0, randomNode(r, size-1))
	case 2:
		n := call([]string{"f", "union", "heads"}[r.Intn(3)], 0)
		for range 1 + r.Intn(4) {
			n.Kids = append(n.Kids, randomNode(r, r.Intn(size)))
		}
		return n
	}
	left := r.Intn(size)
	return two(betweenSigns[r.Intn(5)].op, 0, randomNode(r, left), randomNode(r, size-1-left))
}

// deeper is a node some levels above another one, with small ones beside it.
func deeper(r *rand.Rand, n Node, by int) Node {
	for range by {
		small := randomNode(r, r.Intn(2))
		switch r.Intn(4) {
		case 0:
			n = not(0, n)
		case 1:
			n = up(r.Intn(3), 0, n)
		case 2:
			n = call("f", 0, slices.Insert([]Node{small, small}, r.Intn(3), n)...)
		default:
			op := betweenSigns[r.Intn(5)].op
			if r.Intn(2) == 0 {
				n, small = small, n
			}
			n = two(op, 0, n, small)
		}
	}
	return n
}

// layer lays a node out as a text, with blanks and brackets that needn't be, and knows the places.
type layer struct {
	*rand.Rand
	strings.Builder
	blanks, brackets int
}

func (l *layer) put(s string) int {
	for range l.Intn(l.blanks + 1) {
		l.WriteString([]string{" ", "\t"}[l.Intn(2)])
	}
	at := l.Len()
	l.WriteString(s)
	return at
}

// lay is the node with its places.
func (l *layer) lay(n Node, wanted int) Node {
	if levels[n.Op] < wanted || l.Intn(100) < l.brackets {
		l.put("(")
		n = l.lay(n, 1)
		l.put(")")
		return n
	}
	kids := slices.Clone(n.Kids)
	n.Kids = kids
	switch n.Op {
	case OpCall:
		n.At = l.put(n.Text)
		l.put("(")
		for i := range kids {
			if i > 0 {
				l.put(",")
			}
			kids[i] = l.lay(kids[i], 1)
		}
		l.put(")")
	case OpNot:
		n.At = l.put("!")
		kids[0] = l.lay(kids[0], 4)
	case OpUp:
		kids[0] = l.lay(kids[0], 5)
		n.At = l.put("^")
		if n.Num > 0 {
			l.put(fmt.Sprint(n.Num))
		}
	case OpOr, OpMinus, OpAnd, OpRange, OpBetween:
		kids[0] = l.lay(kids[0], wantedLevels[n.Op][0])
		n.At = l.put(betweenSigns[n.Op-OpOr].sign)
		kids[1] = l.lay(kids[1], wantedLevels[n.Op][1])
	default:
		n.At = l.put(shownOf(n))
	}
	return n
}

// P23.1, P23.2: random nodes, laid out with blanks and brackets, short, deep and around the bound; then with a byte turned, taken out or put in.
func TestRandomNodes(t *testing.T) {
	counts := map[api.Errno]int{}
	for seed := range int64(6000) {
		r := rand.New(rand.NewSource(seed))
		n := randomNode(r, 1+r.Intn(12))
		switch seed % 6 {
		case 0:
			n = randomNode(r, r.Intn(150))
		case 1:
			n = deeper(r, n, 17+r.Intn(10))
		}
		l := layer{Rand: r, blanks: r.Intn(3), brackets: r.Intn(2) * r.Intn(40)}
		want := l.lay(n, 1)
		l.put("")
		s := l.String()
		e := api.OK
		switch {
		case len(s) > 1024:
			e = api.ErrLong
		case depthOf(n) > 24:
			e = api.ErrDepth
		}
		counts[e]++
		if e != api.OK {
			wantError(t, s, 0, e)
			continue
		}
		got, at, e := Parse(s)
		if e != api.OK || at != 0 || !equal(got, want) {
			t.Fatalf("%q: %s, %d, %v, want %s", s, told(got), at, e, told(want))
		}
		holdShown(t, got)
		if len(s) > 40 {
			continue
		}
		hold(t, s)
		at = r.Intn(len(s))
		one := []string{"a", "0", "1", "'", " ", "(", ")", ",", "|", "-", "&", "!", "^", "..", "::", ".", "$"}[r.Intn(17)]
		hold(t, s[:at]+one+s[at+1:])
		hold(t, s[:at]+one+s[at:])
		hold(t, s[:at]+s[at+1:])
		hold(t, s[:at])
		hold(t, s[at:])
	}
	if counts[api.OK] < 3000 || counts[api.ErrLong] < 100 || counts[api.ErrDepth] < 100 {
		t.Errorf("too few of a kind: %v", counts)
	}
}

// lists are all lists of Kids in a node, with their spare room.
func lists(n Node) [][]Node {
	found := [][]Node{n.Kids[:cap(n.Kids)]}
	for _, kid := range n.Kids {
		found = append(found, lists(kid)...)
	}
	return found
}

// texts are all texts in a node.
func texts(n Node) []string {
	found := []string{n.Text}
	for _, kid := range n.Kids {
		found = append(found, texts(kid)...)
	}
	return found
}

// overlap: do two stretches of memory share a byte?
func overlap(a, b unsafe.Pointer, sizeA, sizeB uintptr) bool {
	from, other := uintptr(a), uintptr(b)
	return sizeA > 0 && sizeB > 0 && from < other+sizeB && other < from+sizeA
}

func listsOverlap(a, b []Node) bool {
	size := unsafe.Sizeof(Node{})
	return overlap(unsafe.Pointer(unsafe.SliceData(a)), unsafe.Pointer(unsafe.SliceData(b)), size*uintptr(len(a)), size*uintptr(len(b)))
}

func textsOverlap(a, b string) bool {
	return overlap(unsafe.Pointer(unsafe.StringData(a)), unsafe.Pointer(unsafe.StringData(b)), uintptr(len(a)), uintptr(len(b)))
}

// wantApart asks that no two lists of these nodes share memory.
func wantApart(t *testing.T, nodes ...Node) {
	t.Helper()
	var all [][]Node
	for _, n := range nodes {
		all = append(all, lists(n)...)
	}
	for i := range all {
		for k := range i {
			if listsOverlap(all[i], all[k]) {
				t.Errorf("two lists share memory: %s, %s", told(all[i]...), told(all[k]...))
			}
		}
	}
}

// spoil overwrites all lists of a node, with their spare room.
func spoil(n Node) {
	for _, list := range lists(n) {
		for i := range list {
			list[i] = Node{Op: 99, Text: "spoilt", Num: 9, ID: 9, At: 9}
		}
	}
}

const manyParts = "f(a, b|c, g('x y'), !d^2, (h..i)) & #00000000000000ff - union(j, k, l, m, n)^ :: o"

// Rule 3: what Parse answers is new memory, and nothing of the text is kept.
func TestParsedIsNew(t *testing.T) {
	bytes := []byte(manyParts)
	handed := unsafe.String(unsafe.SliceData(bytes), len(bytes))
	n, at, e := Parse(handed)
	if e != api.OK || at != 0 || string(bytes) != manyParts {
		t.Fatal(at, e, string(bytes))
	}
	for _, s := range texts(n) {
		if textsOverlap(s, handed) {
			t.Errorf("%q lies in what was handed in", s)
		}
	}
	clear(bytes)
	want, _, _ := nodeOf(t, manyParts)
	if !equal(n, want) {
		t.Errorf("%s, want %s", told(n), told(want))
	}
	again, _, _ := Parse(manyParts)
	wantApart(t, n, again)
	spoil(n)
	if third, _, _ := Parse(manyParts); !equal(again, want) || !equal(third, want) {
		t.Errorf("%s, %s, want %s", told(again), told(third), told(want))
	}
}

// withRoom is a node whose lists all have spare room, in which something stands.
func withRoom(n Node) Node {
	kids := make([]Node, len(n.Kids), len(n.Kids)+3)
	for i, kid := range n.Kids {
		kids[i] = withRoom(kid)
	}
	for i := len(kids); i < cap(kids); i++ {
		kids[:cap(kids)][i] = Node{Op: 55, Text: "spare", At: i}
	}
	n.Kids = kids
	return n
}

// snapshot is all of a node's memory, the spare room too, told.
func snapshot(n Node) string {
	var all strings.Builder
	fmt.Fprintf(&all, "%d %q %d %d %d\n", n.Op, n.Text, n.Num, n.ID, n.At)
	for _, list := range lists(n) {
		fmt.Fprintf(&all, "%d: %+v\n", len(list), list)
	}
	return all.String()
}

// Rule 3: Show changes nothing of a node, its spare room neither, and its text is new.
func TestShownIsNew(t *testing.T) {
	n, _, _ := Parse(manyParts)
	want := Show(n)
	n = withRoom(n)
	before := snapshot(n)
	shown := Show(n)
	if shown != want || snapshot(n) != before {
		t.Errorf("handed in, and changed: %s, was %s", snapshot(n), before)
	}
	spoil(n)
	if shown != want {
		t.Errorf("%q, want %q", shown, want)
	}
	for _, op := range []Op{OpName, OpText, OpCall} {
		bytes := []byte("main")
		n := Node{Op: op, Text: unsafe.String(unsafe.SliceData(bytes), len(bytes))}
		shown := Show(n)
		want := strings.Clone(shown)
		if textsOverlap(shown, n.Text) {
			t.Errorf("the text of Op %d lies in what was handed in", op)
		}
		copy(bytes, "side")
		if shown != want {
			t.Errorf("%q, want %q", shown, want)
		}
	}
}

// Rule 3: Call neither changes nor keeps its Kids, and shares no list with them.
func TestCalledIsNew(t *testing.T) {
	deep, _, _ := Parse(manyParts)
	kids := withRoom(Node{Kids: []Node{deep, name("a", 4), deep, deep.Kids[0]}})
	want := Node{Op: OpCall, Text: "main", Kids: []Node{deep, name("a", 4), deep, deep.Kids[0]}}
	before := snapshot(kids)
	bytes := []byte("main")
	n := Call(unsafe.String(unsafe.SliceData(bytes), len(bytes)), kids.Kids...)
	again := Call("main", kids.Kids...)
	if snapshot(kids) != before {
		t.Errorf("handed in, and changed: %s, was %s", snapshot(kids), before)
	}
	wantApart(t, n, again, kids)
	for _, s := range texts(n) {
		for _, handed := range append(texts(kids), unsafe.String(unsafe.SliceData(bytes), len(bytes))) {
			if textsOverlap(s, handed) {
				t.Errorf("%q lies in what was handed in", s)
			}
		}
	}
	want = Call("main", want.Kids...)
	clear(bytes)
	spoil(kids)
	if !equal(n, want) || !equal(again, want) {
		t.Errorf("%s, want %s", told(n), told(want))
	}
	spoil(n)
	if !equal(again, want) {
		t.Errorf("%s, want %s", told(again), told(want))
	}
	// One list that is handed in twice is answered as two.
	shared := []Node{name("a", 0), name("b", 0)}
	twice := Call("f", call("g", 0, shared...), call("h", 0, shared...))
	wantApart(t, twice, call("g", 0, shared...))
}

// Rule 4: what is told hangs on what is handed in alone, whatever was asked before.
func TestAskedAgain(t *testing.T) {
	asked := []string{manyParts, "", "a..b..c", "a $", strings.Repeat("!", 30) + "a", strings.Repeat("a", 1025), "f(", "a^2"}
	for _, first := range asked {
		for _, then := range asked {
			n, _, _ := Parse(first)
			Show(n)
			Call("f", n)
			hold(t, then)
		}
	}
}
