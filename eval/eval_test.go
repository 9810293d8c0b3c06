package eval

import (
	"fmt"
	"math"
	"math/rand"
	"reflect"
	"regexp"
	"slices"
	"strconv"
	"strings"
	"testing"

	"forebear/api"
	"forebear/chain"
	"forebear/check"
	"forebear/disk"
	"forebear/graph"
	"forebear/parse"
	"forebear/store"
)

// texts are the files of a commit: by path the number of what is in them, from 1 on.
type texts map[string]int

// put is a commit as the tests put it: what is answered is held against it, not against what the store tells.
type put struct {
	id, tree api.ID
	parents  []int
	date     int64
	files    texts
	// By the numbers of the commits: is it from this one?
	from []bool
}

// history is a disk with a store and a chain, its commits in the order in which they were put, and its refs and tags; a commit's number is its place there.
type history struct {
	t          testing.TB
	d          *disk.Disk
	s          *store.Store
	c          *chain.Chain
	blobs      map[int]api.ID
	puts       []put
	numbers    map[api.ID]int
	refs, tags map[string]int
}

func newHistory(t testing.TB) *history {
	t.Helper()
	h := &history{t: t, d: disk.New(), blobs: map[int]api.ID{}, numbers: map[api.ID]int{}, refs: map[string]int{}, tags: map[string]int{}}
	h.open()
	return h
}

// open opens store and chain anew.
func (h *history) open() {
	h.t.Helper()
	var e api.Errno
	h.s, e = store.Open(h.d)
	h.must(e)
	h.c, e = chain.Open(h.d, h.s)
	h.must(e)
}

func (h *history) must(e api.Errno) {
	h.t.Helper()
	if e != api.OK {
		h.t.Fatal(e)
	}
}

// blob is the ID of what has this number.
func (h *history) blob(n int) api.ID {
	h.t.Helper()
	if _, there := h.blobs[n]; !there {
		id, e := h.s.Blob([]byte(fmt.Sprint(n)))
		h.must(e)
		h.blobs[n] = id
	}
	return h.blobs[n]
}

func rising(files texts) []string {
	var list []string
	for p := range files {
		list = append(list, p)
	}
	slices.Sort(list)
	return list
}

// commit puts one above those of these numbers; its note makes it unlike the others.
func (h *history) commit(date int64, files texts, parents ...int) int {
	h.t.Helper()
	var entries []api.Entry
	for _, p := range rising(files) {
		entries = append(entries, api.Entry{Path: p, Blob: h.blob(files[p])})
	}
	tree, e := h.s.Tree(entries...)
	h.must(e)
	n := len(h.puts)
	id, e := h.s.Commit(api.Commit{Tree: tree, Parents: h.of(parents...), Date: date, Note: fmt.Sprint(n)})
	h.must(e)
	from := make([]bool, n+1)
	from[n] = true
	for _, parent := range parents {
		for k, is := range h.puts[parent].from {
			from[k] = from[k] || is
		}
	}
	h.puts = append(h.puts, put{id: id, tree: tree, parents: slices.Clone(parents), date: date, files: files, from: from})
	h.numbers[id] = n
	return n
}

func (h *history) ref(name string, n int) {
	h.t.Helper()
	h.must(h.s.SetRef(name, h.puts[n].id))
	h.refs[name] = n
}

func (h *history) drop(name string) {
	h.t.Helper()
	h.must(h.s.DropRef(name))
	delete(h.refs, name)
}

func (h *history) tag(name string, n int) {
	h.t.Helper()
	h.must(h.s.SetTag(name, h.puts[n].id))
	h.tags[name] = n
}

// of is the IDs of the commits of these numbers.
func (h *history) of(numbers ...int) []api.ID {
	var ids []api.ID
	for _, n := range numbers {
		ids = append(ids, h.puts[n].id)
	}
	return ids
}

// told is what is answered, by the numbers of the commits; others as they are.
func (h *history) told(ids []api.ID) string {
	var list []string
	for _, id := range ids {
		if n, is := h.numbers[id]; is {
			list = append(list, fmt.Sprint(n))
		} else {
			list = append(list, fmt.Sprintf("%016x", uint64(id)))
		}
	}
	return strings.Join(list, " ")
}

// write lays a layer of the commits of these numbers and their ancestors; without numbers of all.
func (h *history) write(numbers ...int) {
	h.t.Helper()
	h.must(h.c.Write(h.of(numbers...)...))
}

// covers makes a graph whose chain covers the commits of these numbers and their ancestors; without numbers all.
func (h *history) covers(numbers ...int) *graph.Graph {
	h.t.Helper()
	for range h.c.Names() {
		h.must(h.c.Drop(1))
	}
	h.write(numbers...)
	return graph.New(h.s, h.c)
}

// views are graphs of a history: without a chain, and of chains that cover none, some and all commits, by one layer and by several, merged and dropped.
func (h *history) views() map[string]*graph.Graph {
	h.t.Helper()
	last := len(h.puts) - 1
	all := map[string]*graph.Graph{"nil": graph.New(h.s, nil), "none": graph.New(h.s, h.c)}
	all["a root"] = h.covers(0)
	all["some"] = h.covers(last/2, last/3)
	h.must(h.c.Drop(1))
	h.write(last / 3)
	h.write(last / 2)
	all["some, layers"] = graph.New(h.s, h.c)
	h.write()
	all["all, layers"] = graph.New(h.s, h.c)
	if n := len(h.c.Names()); n > 1 {
		h.must(h.c.Merge(2))
		all["all, merged"] = graph.New(h.s, h.c)
		h.must(h.c.Drop(1))
		all["dropped"] = graph.New(h.s, h.c)
	}
	all["all"] = h.covers()
	return all
}

// strangers are IDs of no commit: of trees and blobs, of nothing, and such as are near to those of commits.
func (h *history) strangers() []api.ID {
	ids := []api.ID{0, 1, 5, 1 << 63, math.MaxUint64}
	for _, blob := range h.blobs {
		ids = append(ids, blob)
	}
	slices.Sort(ids)
	for _, p := range h.puts[:min(3, len(h.puts))] {
		ids = append(ids, p.tree, p.id+1, p.id-1, ^p.id)
	}
	return slices.DeleteFunc(ids, func(id api.ID) bool {
		_, is := h.numbers[id]
		return is
	})
}

var dollars = regexp.MustCompile(`\$\d+`)

func hash(id api.ID) string { return fmt.Sprintf("#%016x", uint64(id)) }

// expr is a text in which $ and a number stand for the hash of the commit of that number.
func (h *history) expr(s string) string {
	return dollars.ReplaceAllStringFunc(s, func(word string) string {
		n, _ := strconv.Atoi(word[1:])
		return hash(h.puts[n].id)
	})
}

// isFrom: is the commit of number a from that of b?
func (h *history) isFrom(a, b int) bool { return a < len(h.puts[b].from) && h.puts[b].from[a] }

// set is some commits: by their numbers, is it in the set?
type set []bool

func (x set) count() int {
	count := 0
	for _, is := range x {
		if is {
			count++
		}
	}
	return count
}

// any: is something so of one of a set?
func (x set) any(so func(int) bool) bool {
	for n, is := range x {
		if is && so(n) {
			return true
		}
	}
	return false
}

// those is the commits of which something is so.
func (h *history) those(so func(int) bool) set {
	x := make(set, len(h.puts))
	for n := range x {
		x[n] = so(n)
	}
	return x
}

// ids are rising.
func (h *history) ids(x set) []api.ID {
	var ids []api.ID
	for n, is := range x {
		if is {
			ids = append(ids, h.puts[n].id)
		}
	}
	slices.Sort(ids)
	return ids
}

// fault is an error, and its place.
type fault struct {
	at int
	e  api.Errno
}

// isPath: is it 1 to 6 names of 1 to 16 bytes, with a slash between each two?
var isPath = regexp.MustCompile(`^[a-z0-9_.]{1,16}(/[a-z0-9_.]{1,16}){0,5}$`).MatchString

// faultsOf are all faults of a node whose types are right, in the order in which they are met.
func (h *history) faultsOf(n parse.Node) []fault {
	var faults []fault
	for i, kid := range n.Kids {
		faults = append(faults, h.faultsOf(kid)...)
		if n.Op == parse.OpCall && n.Text == "touching" && i == 1 && !isPath(kid.Text) {
			faults = append(faults, fault{kid.At, api.ErrName})
		}
	}
	there := true
	switch {
	case n.Op == parse.OpHash:
		_, there = h.numbers[n.ID]
	case n.Op == parse.OpName:
		_, isRef := h.refs[n.Text]
		_, isTag := h.tags[n.Text]
		there = isRef || isTag
	case n.Op == parse.OpCall && n.Text == "ref":
		_, there = h.refs[n.Kids[0].Text]
	case n.Op == parse.OpCall && n.Text == "tag":
		_, there = h.tags[n.Kids[0].Text]
	}
	if !there {
		faults = append(faults, fault{n.At, api.ErrMissing})
	}
	return faults
}

// plainEval is Eval by the chapter's words.
func (h *history) plainEval(n parse.Node) ([]api.ID, int, api.Errno) {
	t, at, e := check.Check(n)
	if e != api.OK {
		return nil, at, e
	}
	if t != check.Set {
		return nil, n.At, api.ErrType
	}
	if faults := h.faultsOf(n); len(faults) > 0 {
		return nil, faults[0].at, faults[0].e
	}
	return h.ids(h.plainSet(n)), 0, api.OK
}

// plainNumber is what a number, or a call of count, comes to.
func (h *history) plainNumber(n parse.Node) int {
	if n.Op == parse.OpNum {
		return n.Num
	}
	return h.plainSet(n.Kids[0]).count()
}

// plainSet is what a node without a fault comes to, row by row of the chapter's table.
func (h *history) plainSet(n parse.Node) set {
	switch n.Op {
	case parse.OpHash:
		return h.those(func(c int) bool { return h.puts[c].id == n.ID })
	case parse.OpName:
		at, there := h.refs[n.Text]
		if !there {
			at = h.tags[n.Text]
		}
		return h.those(func(c int) bool { return c == at })
	case parse.OpCall:
		return h.plainCall(n)
	}
	x := h.plainSet(n.Kids[0])
	y := x
	if len(n.Kids) > 1 {
		y = h.plainSet(n.Kids[1])
	}
	return h.those(func(c int) bool {
		cFrom := func(k int) bool { return h.isFrom(c, k) }
		fromC := func(k int) bool { return h.isFrom(k, c) }
		switch n.Op {
		case parse.OpOr:
			return x[c] || y[c]
		case parse.OpMinus:
			return x[c] && !y[c]
		case parse.OpAnd:
			return x[c] && y[c]
		case parse.OpNot:
			return !x[c]
		case parse.OpRange:
			return y.any(cFrom) && !x.any(cFrom)
		case parse.OpBetween:
			return y.any(cFrom) && x.any(fromC)
		}
		return x.any(func(k int) bool {
			parents := h.puts[k].parents
			if n.Num == 0 {
				return slices.Contains(parents, c)
			}
			return n.Num <= len(parents) && parents[n.Num-1] == c
		})
	})
}

func (h *history) plainCall(n parse.Node) set {
	named := func(names map[string]int, only string, all bool) set {
		return h.those(func(c int) bool {
			for name, at := range names {
				if at == c && (all || name == only) {
					return true
				}
			}
			return false
		})
	}
	switch n.Text {
	case "all", "none":
		return h.those(func(int) bool { return n.Text == "all" })
	case "refs":
		return named(h.refs, "", true)
	case "tags":
		return named(h.tags, "", true)
	case "ref":
		return named(h.refs, n.Kids[0].Text, false)
	case "tag":
		return named(h.tags, n.Kids[0].Text, false)
	case "union", "common":
		var sets []set
		for _, kid := range n.Kids {
			sets = append(sets, h.plainSet(kid))
		}
		return h.those(func(c int) bool {
			in := 0
			for _, x := range sets {
				if x[c] {
					in++
				}
			}
			return in == len(sets) || in > 0 && n.Text == "union"
		})
	}
	x := h.plainSet(n.Kids[0])
	if len(n.Kids) == 1 {
		return h.plainOf(n.Text, x)
	}
	return h.plainWith(n.Text, x, n.Kids[1])
}

// plainOf is a call with one set.
func (h *history) plainOf(name string, x set) set {
	// Of the commits from all of x.
	common := h.those(func(c int) bool {
		return x.count() > 0 && !x.any(func(k int) bool { return !h.isFrom(c, k) })
	})
	best := func(y set, c int) bool {
		return y[c] && !y.any(func(k int) bool { return k != c && h.isFrom(c, k) })
	}
	return h.those(func(c int) bool {
		switch name {
		case "ancestors":
			return x.any(func(k int) bool { return h.isFrom(c, k) })
		case "descendants":
			return x.any(func(k int) bool { return h.isFrom(k, c) })
		case "parents":
			return x.any(func(k int) bool { return slices.Contains(h.puts[k].parents, c) })
		case "children":
			return x.any(func(k int) bool { return slices.Contains(h.puts[c].parents, k) })
		case "heads":
			return best(x, c)
		case "roots":
			return x[c] && !x.any(func(k int) bool { return k != c && h.isFrom(k, c) })
		case "merges":
			return x[c] && len(h.puts[c].parents) > 1
		case "bases":
			return best(common, c)
		}
		h.t.Fatal(name)
		return false
	})
}

// plainWith is a call with a set and a number, or a text.
func (h *history) plainWith(name string, x set, kid parse.Node) set {
	switch name {
	case "touching":
		return h.those(func(c int) bool { return x[c] && h.touches(c, kid.Text) })
	case "ancestors":
		for range min(h.plainNumber(kid), len(h.puts)) {
			parents := h.plainOf("parents", x)
			was := x
			x = h.those(func(c int) bool { return was[c] || parents[c] })
		}
		return x
	}
	n := h.plainNumber(kid)
	return h.those(func(c int) bool {
		switch name {
		case "latest":
			ahead := 0
			for k := range x {
				a, b := h.puts[k], h.puts[c]
				if x[k] && (a.date > b.date || a.date == b.date && a.id < b.id) {
					ahead++
				}
			}
			return x[c] && ahead < n
		case "before":
			return x[c] && h.puts[c].date < int64(n)
		case "since":
			return x[c] && h.puts[c].date >= int64(n)
		}
		h.t.Fatal(name)
		return false
	})
}

// touches: is something under p another one in a commit than in its first parent?
func (h *history) touches(n int, p string) bool {
	var was texts
	if parents := h.puts[n].parents; len(parents) > 0 {
		was = h.puts[parents[0]].files
	}
	now := h.puts[n].files
	for _, files := range []texts{was, now} {
		for q := range files {
			if (q == p || strings.HasPrefix(q, p+"/")) && was[q] != now[q] {
				return true
			}
		}
	}
	return false
}

// short is the beginning of a text.
func short(s string) string { return fmt.Sprintf("%.300s", s) }

// wantRun asks for all that Run answers to a text.
func (h *history) wantRun(what string, g *graph.Graph, s string, want []api.ID, wantAt int, wantE api.Errno) {
	h.t.Helper()
	if ids, at, e := Run(g, s); !slices.Equal(ids, want) || at != wantAt || e != wantE {
		h.t.Errorf("%s: %s: %s; %d, %v, want %s; %d, %v", what, short(s), h.told(ids), at, e, h.told(want), wantAt, wantE)
	}
}

// wantEval asks for all that Eval answers to a node.
func (h *history) wantEval(what string, g *graph.Graph, n parse.Node, want []api.ID, wantAt int, wantE api.Errno) {
	h.t.Helper()
	if ids, at, e := Eval(g, n); !slices.Equal(ids, want) || at != wantAt || e != wantE {
		h.t.Errorf("%s: %s: %s; %d, %v, want %s; %d, %v", what, short(parse.Show(n)), h.told(ids), at, e, h.told(want), wantAt, wantE)
	}
}

// wantSet asks for a set by numbers, of a text in which $ stands ahead of such.
func (h *history) wantSet(what string, g *graph.Graph, s string, numbers ...int) {
	h.t.Helper()
	want := h.of(numbers...)
	slices.Sort(want)
	h.wantRun(what, g, h.expr(s), want, 0, api.OK)
	h.hold(what, g, h.expr(s))
}

// wantError asks for an error, its place, and that nothing is read or written for it.
func (h *history) wantError(what string, g *graph.Graph, s string, at int, e api.Errno) {
	h.t.Helper()
	g.Reset()
	was := h.tell()
	h.wantRun(what, g, s, nil, at, e)
	h.hold(what, g, s)
	if g.Visits() > 0 || g.Trees() > 0 || h.tell() != was {
		h.t.Errorf("%s: %s: in spite of an error something is read or written: %x, %x", what, short(s), g.Read(), g.Opened())
	}
}

// placed is a node whose places are other ones.
func placed(n parse.Node, place func() int) parse.Node {
	n.At = place()
	kids := make([]parse.Node, len(n.Kids))
	for i, kid := range n.Kids {
		kids[i] = placed(kid, place)
	}
	n.Kids = kids
	return n
}

// holdNode holds Eval of a node, as it is and with other places, against the chapter's words.
func (h *history) holdNode(what string, g *graph.Graph, n parse.Node) {
	h.t.Helper()
	ids, at, e := h.plainEval(n)
	h.wantEval(what, g, n, ids, at, e)
	next := 1000
	other := placed(n, func() int { next -= 7; return next })
	ids, at, e = h.plainEval(other)
	h.wantEval(what+", other places", g, other, ids, at, e)
}

// hold holds Run of a text, Eval of its node, and Run of how that is shown, against the chapter's words.
func (h *history) hold(what string, g *graph.Graph, s string) {
	h.t.Helper()
	n, at, e := parse.Parse(s)
	if e != api.OK {
		h.wantRun(what, g, s, nil, at, e)
		return
	}
	ids, at, e := h.plainEval(n)
	h.wantRun(what, g, s, ids, at, e)
	h.holdNode(what, g, n)
	shown := parse.Show(n)
	if len(shown) > api.MaxExpr {
		return
	}
	again, _, _ := parse.Parse(shown)
	ids, at, e = h.plainEval(again)
	h.wantRun(what+", shown", g, shown, ids, at, e)
}

// tell is all that is on the disk, and what store and chain tell.
func (h *history) tell() string {
	var b strings.Builder
	for _, name := range h.d.Names() {
		file, _ := h.d.Read(name)
		fmt.Fprintln(&b, name, file)
	}
	fmt.Fprintln(&b, h.d.Writes(), h.d.Dead(), h.s.Commits(), h.s.Refs(), h.s.Tags(), h.c.Names(), h.c.Sizes(), h.c.Rows())
	return b.String()
}

// shapes is a history with merges of two and of MaxParents parents, several roots, commits to which nothing leads, refs and tags.
func shapes(t testing.TB) *history {
	t.Helper()
	h := newHistory(t)
	h.commit(5, texts{"a": 1})                                                       // 0
	h.commit(1, texts{"a": 2}, 0)                                                    // 1
	h.commit(9, texts{"a": 1, "d/x": 1}, 0)                                          // 2
	h.commit(3, texts{"a": 2, "d/x": 1}, 1, 2)                                       // 3
	h.commit(4, texts{"a": 2, "d/x": 1, "d/y": 1}, 3)                                // 4
	h.commit(7, texts{"q": 1})                                                       // 5: another root
	h.commit(7, texts{"q": 2}, 5)                                                    // 6
	h.commit(2, texts{"a": 2, "d/x": 1, "d/y": 1, "q": 2}, 4, 6)                     // 7
	h.commit(8, nil, 0)                                                              // 8
	h.commit(0, nil)                                                                 // 9: a root alone, without files
	h.commit(1, texts{"a/z": 1, "d/x": 1, "d/y": 1, "q": 2}, 7, 4, 6, 2, 1, 0, 5, 8) // 10: a is a folder
	h.commit(6, texts{"a/z": 1, "d/x": 1, "d/y": 1, "q": 2}, 10)                     // 11
	h.commit(9, texts{"a": 2, "d.x": 1, "d/x": 2}, 3)                                // 12: nothing leads to it
	h.commit(2, texts{"a": 1, "d/x": 1}, 2, 1)                                       // 13: as 3, but turned
	for name, n := range map[string]int{"main": 11, "side": 12, "both": 1, "all": 3, "x1": 3} {
		h.ref(name, n)
	}
	for name, n := range map[string]int{"both": 2, "v1": 0, "lone": 9, "v.2": 13, "heads": 4} {
		h.tag(name, n)
	}
	return h
}

// everyone is the numbers of all commits but these.
func (h *history) everyone(but ...int) []int {
	var all []int
	for n := range h.puts {
		if !slices.Contains(but, n) {
			all = append(all, n)
		}
	}
	return all
}

// row is a text, and the commits that it comes to.
type row struct {
	s       string
	numbers []int
}

// wantRows asks for rows over all views of a history.
func (h *history) wantRows(rows ...row) {
	h.t.Helper()
	for what, g := range h.views() {
		for _, r := range rows {
			h.wantSet(what, g, r.s, r.numbers...)
		}
	}
}

// is makes the numbers of a row.
func is(numbers ...int) []int { return numbers }

// everyRow are texts of each row of the chapter's table, for shapes.
func (h *history) everyRow() []string {
	var list []string
	for _, s := range []string{
		"main", "both", "v1", "all", "heads", "$7", "$1|$5", "all()-refs()", "all()&tags()", "!refs()", "$3..main", "both..(main|side)", "(v1|$5)::(main|side)", "both::main",
		"all()^", "all()^1", "all()^2", "all()^8", "main^^", "all()", "none()", "refs()", "tags()", "ref('both')", "tag('both')", "tag('v.2')",
		"ancestors($7)", "ancestors(refs())", "ancestors(main, 0)", "ancestors(main, 1)", "ancestors(main|side, 2)", "ancestors(all(), 3)", "descendants(both)", "descendants($5|$8)",
		"parents(all())", "parents($10)", "children(v1)", "children(all())", "heads(all())", "heads(all()-main)", "roots(all())", "roots(refs())", "roots(all()-v1-$5)", "merges(all())", "merges(refs())",
		"bases($3|tag('v.2'))", "bases(main|side)", "bases(refs())", "bases(all())", "bases(none())", "touching(all(), 'a')", "touching(all(), 'd')", "touching(all(), 'd/x')", "touching(all(), 'q')", "touching(refs(), 'zz')",
		"latest(all(), 1)", "latest(all(), 4)", "latest(!refs(), 6)", "before(all(), 4)", "since(all(), 4)", "union(main, v1, all())", "union($2)", "common(all(), refs(), ancestors(side))", "common($2)",
		"latest(all(), count(refs()))", "before(all(), count(tags()))", "ancestors(main, count(v1))", "heads(all()) - main", "!(refs() | tags())..main", "touching(merges(all()), 'd') | roots(children($5))",
	} {
		list = append(list, h.expr(s))
	}
	return list
}

// holdAll holds what is answered to all rows against the chapter's words; nothing is written.
func (h *history) holdAll(what string, g *graph.Graph) {
	h.t.Helper()
	was := h.tell()
	for _, s := range h.everyRow() {
		h.hold(what, g, s)
	}
	h.hold(what, g, "main | nobody")
	h.hold(what, g, "touching(all(), 'A')")
	if h.tell() != was {
		h.t.Errorf("%s: something was written", what)
	}
}

// line is so many commits one above the other, with rising dates.
func line(t testing.TB, n int) *history {
	t.Helper()
	h := newHistory(t)
	h.commit(0, texts{"a": 1})
	for k := 1; k < n; k++ {
		h.commit(int64(k), texts{"a": 1 + k/2}, k-1)
	}
	return h
}

// The chapter's examples.
func TestExamples(t *testing.T) {
	h := line(t, 3)
	h.ref("main", 2)
	h.tag("v", 0)
	h.wantRows(row{"v..main", is(1, 2)}, row{"main^", is(1)}, row{"heads(all())", is(2)}, row{"latest(all(), count(tags()))", is(2)})
	for what, g := range h.views() {
		h.wantError(what, g, "nobody", 0, api.ErrMissing)
		h.wantError(what, g, "count(all())", 0, api.ErrType)
	}
}

// The document's example: what nobody has merged.
func TestNotMerged(t *testing.T) {
	h := shapes(t)
	h.wantRows(row{"heads(all()) - main", is(9, 12, 13)}, row{"heads(all() - ancestors(main))", is(9, 12, 13)})
}

// A name is the ref of that name; if there is none, the tag.
func TestNames(t *testing.T) {
	h := shapes(t)
	h.wantRows(
		row{"main", is(11)}, row{"side", is(12)}, row{"both", is(1)}, row{"v1", is(0)}, row{"lone", is(9)}, row{"all", is(3)}, row{"heads", is(4)}, row{"x1", is(3)},
		row{"heads(heads)", is(4)}, row{"all & all()", is(3)}, row{"refs()", is(1, 3, 11, 12)}, row{"tags()", is(0, 2, 4, 9, 13)},
	)
	g := graph.New(h.s, nil)
	h.ref("both", 6)
	h.wantSet("set anew", g, "both", 6)
	h.wantSet("set anew", g, "ref('both')", 6)
	h.wantSet("set anew", g, "refs()", 3, 6, 11, 12)
	h.drop("both")
	h.wantSet("dropped", g, "both", 2)
	h.wantSet("dropped", g, "tag('both')", 2)
	h.wantSet("dropped", g, "refs()", 3, 11, 12)
	h.wantError("dropped", g, "ref('both')", 0, api.ErrMissing)
	h.drop("main")
	h.wantError("dropped", g, "main", 0, api.ErrMissing)
	h.ref("v1", 8)
	h.wantSet("a ref ahead of a tag", g, "v1", 8)
	h.wantSet("a ref ahead of a tag", g, "tag('v1')", 0)
	for _, name := range []string{"nobody", "mai", "main1", "v", "v2", "none", "count", "x_1"} {
		h.wantError(name, g, name, 0, api.ErrMissing)
		h.wantError(name, g, " \t("+name+")", 3, api.ErrMissing)
	}
}

// ref and tag ask for their own kind alone, whatever the text.
func TestRefAndTag(t *testing.T) {
	h := shapes(t)
	for name, n := range map[string]int{"0": 5, "a.b": 6, ".": 7, "_": 8, "abcdefghijklmnop": 9, "1x": 10} {
		h.ref(name, n)
		h.tag(name, 13-n)
		h.wantRows(row{"ref('" + name + "')", is(n)}, row{"tag('" + name + "')", is(13 - n)})
	}
	h.wantRows(row{"ref('both')", is(1)}, row{"tag('both')", is(2)}, row{"ref('main')", is(11)}, row{"tag('v1')", is(0)}, row{"tag('v.2')", is(13)}, row{"ref('main') | tag('v1')", is(0, 11)})
	for what, g := range h.views() {
		for _, s := range []string{"ref('v1')", "ref('lone')", "ref('v.2')", "tag('main')", "tag('side')", "ref('')", "tag('')", "ref('A')", "tag('a/b')", "ref(' main')", "ref('main ')", "ref('nobody')", "tag('\xff\x00')", "ref('" + strings.Repeat("a", 900) + "')"} {
			h.wantError(what, g, s, 0, api.ErrMissing)
			h.wantError(what, g, "main|"+s, 5, api.ErrMissing)
		}
	}
}

// A hash is a commit's, whatever else has that ID.
func TestHashes(t *testing.T) {
	h := shapes(t)
	for what, g := range h.views() {
		for n, p := range h.puts {
			h.wantSet(what, g, hash(p.id), n)
			h.wantSet(what, g, "ancestors("+hash(p.id)+", 0)", n)
		}
		for _, id := range h.strangers() {
			h.wantError(what, g, hash(id), 0, api.ErrMissing)
			h.wantError(what, g, "!"+hash(id), 1, api.ErrMissing)
			h.wantError(what, g, "heads(v1, main)^|"+hash(id), 0, api.ErrCount)
			h.wantError(what, g, "none()&"+hash(id), 7, api.ErrMissing)
		}
	}
	// A commit that nothing names is there, too.
	n := h.commit(3, nil)
	h.wantRows(row{hash(h.puts[n].id), is(n)})
}

// `|`, `-`, `&` between a set and itself, none, all, and one with nothing and something in common, in both orders.
func TestSigns(t *testing.T) {
	h := shapes(t)
	h.wantRows(
		row{"$3 | $3", is(3)}, row{"$3 - $3", nil}, row{"$3 & $3", is(3)},
		row{"$3 | none()", is(3)}, row{"none() | $3", is(3)}, row{"$3 - none()", is(3)}, row{"none() - $3", nil}, row{"$3 & none()", nil}, row{"none() & $3", nil},
		row{"none() | none()", nil}, row{"none() - none()", nil}, row{"none() & none()", nil},
		row{"$3 | all()", h.everyone()}, row{"all() | $3", h.everyone()}, row{"$3 - all()", nil}, row{"all() - $3", h.everyone(3)}, row{"$3 & all()", is(3)}, row{"all() & $3", is(3)},
		row{"all() | all()", h.everyone()}, row{"all() - all()", nil}, row{"all() & all()", h.everyone()},
		row{"$3 | $9", is(3, 9)}, row{"$9 | $3", is(3, 9)}, row{"$3 - $9", is(3)}, row{"$9 - $3", is(9)}, row{"$3 & $9", nil}, row{"$9 & $3", nil},
		row{"($3|$4|$5) | ($4|$6)", is(3, 4, 5, 6)}, row{"($3|$4|$5) - ($4|$6)", is(3, 5)}, row{"($4|$6) - ($3|$4|$5)", is(6)}, row{"($3|$4|$5) & ($4|$6)", is(4)}, row{"($4|$6) & ($3|$4|$5)", is(4)},
		// In rows from the left, & ahead of the others.
		row{"$3 - $3 | $4", is(4)}, row{"$3 | $4 - $3", is(4)}, row{"all() - $3 - $4", h.everyone(3, 4)}, row{"all() - ($3 - $3)", h.everyone()}, row{"$3 | $4 & $5", is(3)}, row{"($3 | $4) & $4", is(4)},
	)
}

func TestNot(t *testing.T) {
	h := shapes(t)
	h.wantRows(
		row{"!none()", h.everyone()}, row{"!all()", nil}, row{"!main", h.everyone(11)}, row{"!!main", is(11)}, row{"!!!main", h.everyone(11)}, row{"!($0|$13)", h.everyone(0, 13)}, row{"!!all()", h.everyone()},
		row{"!main & !side", h.everyone(11, 12)}, row{"!main^", h.everyone(10)}, row{"!($9|main)..$9", is(9)}, row{"!$9..!$9", nil},
	)
}

func TestRange(t *testing.T) {
	h := shapes(t)
	h.wantRows(
		row{"$0..$3", is(1, 2, 3)}, row{"$3..$0", nil}, row{"$3..$3", nil}, row{"all()..all()", nil}, row{"none()..$3", is(0, 1, 2, 3)}, row{"$3..none()", nil}, row{"none()..none()", nil}, row{"none()..all()", h.everyone()}, row{"all()..none()", nil},
		row{"($1|$5)..($7|$12)", is(2, 3, 4, 6, 7, 12)}, row{"($7|$12)..($1|$5)", nil}, row{"$9..$4", is(0, 1, 2, 3, 4)}, row{"$3..($3|$4)", is(4)}, row{"($3|$4)..$3", nil}, row{"$1..$2", is(2)}, row{"$13..$3", is(3)}, row{"$8..main", is(1, 2, 3, 4, 5, 6, 7, 10, 11)},
		row{"(none()|$0)..($9|$8)", is(8, 9)},
	)
}

func TestBetween(t *testing.T) {
	h := shapes(t)
	h.wantRows(
		row{"$0::$3", is(0, 1, 2, 3)}, row{"$3::$0", nil}, row{"$3::$3", is(3)}, row{"none()::$3", nil}, row{"$3::none()", nil}, row{"none()::none()", nil}, row{"all()::all()", h.everyone()}, row{"all()::$3", is(0, 1, 2, 3)}, row{"$3::all()", is(3, 4, 7, 10, 11, 12)},
		row{"$1::$12", is(1, 3, 12)}, row{"$2::$4", is(2, 3, 4)}, row{"$9::$11", nil}, row{"$6::$4", nil}, row{"$9::$9", is(9)},
		row{"($1|$5)::($7|$12)", is(1, 3, 4, 5, 6, 7, 12)}, row{"($1|$6)::($6|$3)", is(1, 3, 6)}, row{"($3|$4)::($3|$4)", is(3, 4)}, row{"($0|$9)::($8|$13)", is(0, 1, 2, 8, 13)}, row{"($9|$4)::$7", is(4, 7)}, row{"$8::main", is(8, 10, 11)},
	)
}

func TestUp(t *testing.T) {
	h := shapes(t)
	h.wantRows(
		row{"$0^", nil}, row{"$0^1", nil}, row{"$9^^", nil}, row{"none()^", nil}, row{"none()^2", nil},
		row{"$1^", is(0)}, row{"$1^1", is(0)}, row{"$1^2", nil}, row{"$3^", is(1, 2)}, row{"$3^1", is(1)}, row{"$3^2", is(2)}, row{"$3^3", nil}, row{"$3^999999999", nil}, row{"$13^1", is(2)}, row{"$13^2", is(1)},
		row{"$10^", is(0, 1, 2, 4, 5, 6, 7, 8)}, row{"$10^1", is(7)}, row{"$10^2", is(4)}, row{"$10^3", is(6)}, row{"$10^4", is(2)}, row{"$10^5", is(1)}, row{"$10^6", is(0)}, row{"$10^7", is(5)}, row{"$10^8", is(8)}, row{"$10^9", nil},
		row{"($3|$13)^1", is(1, 2)}, row{"($3|$13)^", is(1, 2)}, row{"($3|$0|$7)^2", is(2, 6)}, row{"($3|$0|$7)^", is(1, 2, 4, 6)}, row{"all()^", h.everyone(9, 11, 12, 13)}, row{"all()^2", is(1, 2, 4, 6)}, row{"all()^3", is(6)},
		row{"$11^^", is(0, 1, 2, 4, 5, 6, 7, 8)}, row{"$11^^2", is(4)}, row{"$11^^1^2", is(6)}, row{"$11^1^2^", is(3)}, row{"$4^^2^", is(0)},
		row{"parents($0)", nil}, row{"parents($3)", is(1, 2)}, row{"parents($3|$13|$1)", is(0, 1, 2)}, row{"parents(all())", h.everyone(9, 11, 12, 13)}, row{"parents(none())", nil}, row{"parents(parents($4))", is(1, 2)},
	)
}

func TestAncestors(t *testing.T) {
	h := shapes(t)
	h.wantRows(
		row{"ancestors($0)", is(0)}, row{"ancestors($3)", is(0, 1, 2, 3)}, row{"ancestors(none())", nil}, row{"ancestors($9|$5)", is(5, 9)}, row{"ancestors($4|$8)", is(0, 1, 2, 3, 4, 8)}, row{"ancestors(all())", h.everyone()}, row{"ancestors(main)", h.everyone(9, 12, 13)},
		row{"ancestors($11, 0)", is(11)}, row{"ancestors($11, 1)", is(10, 11)}, row{"ancestors($11, 2)", is(0, 1, 2, 4, 5, 6, 7, 8, 10, 11)}, row{"ancestors($11, 3)", h.everyone(9, 12, 13)}, row{"ancestors($11, 999999999)", h.everyone(9, 12, 13)},
		row{"ancestors($12, 1)", is(3, 12)}, row{"ancestors($12, 2)", is(1, 2, 3, 12)}, row{"ancestors($12, 3)", is(0, 1, 2, 3, 12)}, row{"ancestors($12, 4)", is(0, 1, 2, 3, 12)},
		row{"ancestors($7, 1)", is(4, 6, 7)}, row{"ancestors($7, 2)", is(3, 4, 5, 6, 7)}, row{"ancestors($7, 3)", is(1, 2, 3, 4, 5, 6, 7)}, row{"ancestors($7, 4)", is(0, 1, 2, 3, 4, 5, 6, 7)},
		row{"ancestors($7|$1, 1)", is(0, 1, 4, 6, 7)}, row{"ancestors($7|$3, 1)", is(1, 2, 3, 4, 6, 7)}, row{"ancestors(none(), 5)", nil}, row{"ancestors(all(), 0)", h.everyone()}, row{"ancestors(all(), 1)", h.everyone()}, row{"ancestors($0, 3)", is(0)}, row{"ancestors($9|$13, 1)", is(1, 2, 9, 13)},
	)
}

// A commit is come to by a short and by a long way: how far it goes on from there hangs on the short one, whichever parent comes first.
func TestShortAndLongWays(t *testing.T) {
	for turned := range 2 {
		h := newHistory(t)
		for k := range 9 {
			h.commit(3, nil, []int{k - 1}[:min(k, 1)]...)
		}
		parents := []int{8, 3}
		if turned == 1 {
			slices.Reverse(parents)
		}
		top := h.commit(3, nil, parents...)
		for what, g := range h.views() {
			h.wantSet(what, g, fmt.Sprintf("ancestors($%d, 1)", top), 3, 8, top)
			h.wantSet(what, g, fmt.Sprintf("ancestors($%d, 3)", top), 1, 2, 3, 6, 7, 8, top)
			h.wantSet(what, g, fmt.Sprintf("ancestors($%d, 4)", top), 0, 1, 2, 3, 5, 6, 7, 8, top)
			h.wantSet(what, g, fmt.Sprintf("ancestors($%d, 5)", top), h.everyone()...)
			h.wantSet(what, g, fmt.Sprintf("ancestors($%d|$5, 1)", top), 3, 4, 5, 8, top)
			h.wantSet(what, g, fmt.Sprintf("ancestors($%d|$5, 2)", top), 2, 3, 4, 5, 7, 8, top)
		}
	}
}

func TestDescendantsAndChildren(t *testing.T) {
	h := shapes(t)
	h.wantRows(
		row{"descendants($0)", h.everyone(5, 6, 9)}, row{"descendants($3)", is(3, 4, 7, 10, 11, 12)}, row{"descendants($9)", is(9)}, row{"descendants($12)", is(12)}, row{"descendants($8|$6)", is(6, 7, 8, 10, 11)}, row{"descendants($5|$1)", is(1, 3, 4, 5, 6, 7, 10, 11, 12, 13)},
		row{"descendants(none())", nil}, row{"descendants(all())", h.everyone()}, row{"descendants(roots(all()))", h.everyone()},
		row{"children($0)", is(1, 2, 8, 10)}, row{"children($9)", nil}, row{"children($12)", nil}, row{"children($1|$5)", is(3, 6, 10, 13)}, row{"children($2)", is(3, 10, 13)}, row{"children(none())", nil}, row{"children(all())", h.everyone(0, 5, 9)}, row{"children(children($0))", is(3, 10, 11, 13)},
	)
}

func TestHeadsAndRoots(t *testing.T) {
	h := shapes(t)
	h.wantRows(
		row{"heads(all())", is(9, 11, 12, 13)}, row{"heads(none())", nil}, row{"heads($3)", is(3)}, row{"heads($0|$11)", is(11)}, row{"heads($0|$4|$6)", is(4, 6)}, row{"heads($1|$2|$0)", is(1, 2)}, row{"heads($0|$12|$9)", is(9, 12)}, row{"heads($3|$13)", is(3, 13)}, row{"heads(!main)", is(9, 10, 12, 13)},
		row{"roots(all())", is(0, 5, 9)}, row{"roots(none())", nil}, row{"roots($3)", is(3)}, row{"roots($0|$11)", is(0)}, row{"roots($11|$12)", is(11, 12)}, row{"roots($1|$11|$12)", is(1)}, row{"roots($3|$5|$10)", is(3, 5)}, row{"roots($10|$11)", is(10)}, row{"roots($8|$7|$11)", is(7, 8)},
		row{"roots($1|$4|$13)", is(1)}, row{"roots(all() - roots(all()))", is(1, 2, 6, 8)}, row{"roots($9|$0)", is(0, 9)}, row{"roots($13|$3)", is(3, 13)},
	)
}

func TestMerges(t *testing.T) {
	h := shapes(t)
	h.wantRows(row{"merges(all())", is(3, 7, 10, 13)}, row{"merges(main)", nil}, row{"merges($3|$4|$10|$0)", is(3, 10)}, row{"merges(none())", nil}, row{"merges($0|$9|$5)", nil}, row{"merges(merges(all()))", is(3, 7, 10, 13)})
}

func TestBases(t *testing.T) {
	h := shapes(t)
	h.wantRows(
		row{"bases(none())", nil}, row{"bases($3)", is(3)}, row{"bases($0)", is(0)}, row{"bases($1|$2)", is(0)}, row{"bases($4|$12)", is(3)}, row{"bases($7|$12)", is(3)}, row{"bases($8|$3)", is(0)}, row{"bases($1|$5)", nil}, row{"bases($11|$10)", is(10)}, row{"bases($4|$6)", nil},
		row{"bases($3|$13)", is(1, 2)}, row{"bases($3|$13|$12)", is(1, 2)}, row{"bases($10|$11|$12|$13)", is(1, 2)}, row{"bases($3|$13|$8)", is(0)}, row{"bases($3|$4|$7)", is(3)}, row{"bases(all())", nil}, row{"bases(descendants($3))", is(3)}, row{"bases(descendants($1))", is(1)},
	)
}

func TestTouching(t *testing.T) {
	h := shapes(t)
	h.wantRows(
		// A file, one that becomes a folder, a folder, what lies in it, what begins alike, nothing.
		row{"touching(all(), 'a')", is(0, 1, 8, 10)}, row{"touching(all(), 'q')", is(5, 6, 7)}, row{"touching(all(), 'd')", is(2, 3, 4, 12)}, row{"touching(all(), 'd/x')", is(2, 3, 12)}, row{"touching(all(), 'd/y')", is(4)}, row{"touching(all(), 'd.x')", is(12)},
		row{"touching(all(), 'a/z')", is(10)}, row{"touching(all(), 'zz')", nil}, row{"touching(all(), 'd/x/y')", nil}, row{"touching(all(), 'q/r')", nil}, row{"touching(all(), 'a/b/c/d/e/f')", nil}, row{"touching(all(), 'abcdefghijklmnop')", nil},
		// Of some commits alone.
		row{"touching(none(), 'a')", nil}, row{"touching($0, 'a')", is(0)}, row{"touching($9, 'a')", nil}, row{"touching($3|$4|$12, 'd/x')", is(3, 12)}, row{"touching(merges(all()), 'd')", is(3)}, row{"touching($11|$13, 'a')", nil}, row{"touching(touching(all(), 'd'), 'd/y')", is(4)},
	)
}

// What is no path is told even where there are no commits that might touch it.
func TestNoPath(t *testing.T) {
	h := shapes(t)
	for what, g := range h.views() {
		for _, p := range []string{"", "/", "/a", "a/", "a//b", "A", "a b", "a\xff", "abcdefghijklmnopq", "a/b/c/d/e/f/g", "a,b", "-", "*", "d/x/", "\x00", strings.Repeat("a/", 400) + "a"} {
			h.wantError(what, g, "touching(all(), '"+p+"')", 16, api.ErrName)
			h.wantError(what, g, "touching(none(),'"+p+"')", 16, api.ErrName)
			h.wantError(what, g, "main|heads(touching( main , '"+p+"'))", 28, api.ErrName)
		}
	}
}

// lesser is the one of two commits with the lesser ID.
func (h *history) lesser(a, b int) int {
	if h.puts[a].id < h.puts[b].id {
		return a
	}
	return b
}

func TestLatest(t *testing.T) {
	h := shapes(t)
	h.wantRows(
		row{"latest(all(), 0)", nil}, row{"latest(all(), 1)", is(h.lesser(2, 12))}, row{"latest(all(), 2)", is(2, 12)}, row{"latest(all(), 3)", is(2, 8, 12)}, row{"latest(all(), 4)", is(2, 8, 12, h.lesser(5, 6))}, row{"latest(all(), 5)", is(2, 5, 6, 8, 12)}, row{"latest(all(), 6)", is(2, 5, 6, 8, 11, 12)},
		row{"latest(all(), 9)", h.everyone(1, 7, 9, 10, 13)}, row{"latest(all(), 10)", append(h.everyone(1, 7, 9, 10, 13), h.lesser(7, 13))}, row{"latest(all(), 12)", append(h.everyone(1, 9, 10), h.lesser(1, 10))}, row{"latest(all(), 13)", h.everyone(9)},
		row{"latest(all(), 14)", h.everyone()}, row{"latest(all(), 15)", h.everyone()}, row{"latest(all(), 999999999)", h.everyone()},
		row{"latest(none(), 0)", nil}, row{"latest(none(), 3)", nil}, row{"latest($9, 1)", is(9)}, row{"latest($9, 0)", nil}, row{"latest($7|$13|$1, 1)", is(h.lesser(7, 13))}, row{"latest($7|$13|$1, 2)", is(7, 13)}, row{"latest(!($2|$12), 1)", is(8)},
	)
}

// Many commits of one Date, among some others.
func TestLatestOfOneDate(t *testing.T) {
	h := newHistory(t)
	for k := range 40 {
		h.commit([]int64{3, 3, 2, 3, 4}[k%5], nil, []int{k - 1}[:min(k, 1)]...)
	}
	for what, g := range h.views() {
		for n := range 45 {
			h.hold(what, g, fmt.Sprintf("latest(all(), %d)", n))
			h.hold(what, g, h.expr(fmt.Sprintf("latest(all() - $4 - $7 - $10, %d)", n)))
		}
	}
}

func TestBeforeAndSince(t *testing.T) {
	h := shapes(t)
	h.wantRows(
		row{"before(all(), 0)", nil}, row{"before(all(), 1)", is(9)}, row{"before(all(), 2)", is(1, 9, 10)}, row{"before(all(), 9)", h.everyone(2, 12)}, row{"before(all(), 10)", h.everyone()}, row{"before(all(), 999999999)", h.everyone()}, row{"before(none(), 5)", nil}, row{"before($3|$4, 4)", is(3)}, row{"before($3|$4, 3)", nil}, row{"before($3|$4, 5)", is(3, 4)},
		row{"since(all(), 0)", h.everyone()}, row{"since(all(), 1)", h.everyone(9)}, row{"since(all(), 9)", is(2, 12)}, row{"since(all(), 10)", nil}, row{"since(none(), 0)", nil}, row{"since($3|$4, 4)", is(4)}, row{"since($3|$4, 5)", nil}, row{"since($3|$4, 3)", is(3, 4)},
	)
}

// Dates from the least to the greatest, above all numbers of an expression too.
func TestDates(t *testing.T) {
	h := newHistory(t)
	dates := []int64{0, 1, 999999998, 999999999, 1000000000, 1<<31 - 1, 1 << 31, 1<<32 - 1, 1 << 32, 1<<32 + 1, api.MaxDate - 1, api.MaxDate}
	for k := range dates {
		h.commit(dates[(k*5)%len(dates)], nil)
	}
	for what, g := range h.views() {
		for _, n := range []int{0, 1, 2, 999999997, 999999998, 999999999} {
			var before, since []int
			for k, p := range h.puts {
				if p.date < int64(n) {
					before = append(before, k)
				} else {
					since = append(since, k)
				}
			}
			h.wantSet(what, g, fmt.Sprintf("before(all(), %d)", n), before...)
			h.wantSet(what, g, fmt.Sprintf("since(all(), %d)", n), since...)
		}
		for n := range dates {
			var latest []int
			for k, p := range h.puts {
				if slices.Contains(dates[len(dates)-n:], p.date) {
					latest = append(latest, k)
				}
			}
			h.wantSet(what, g, fmt.Sprintf("latest(all(), %d)", n), latest...)
		}
	}
}

func TestUnionAndCommonOfSets(t *testing.T) {
	h := shapes(t)
	h.wantRows(
		row{"union(main)", is(11)}, row{"union(none())", nil}, row{"union(main, main)", is(11)}, row{"union($1, $2|$3, none(), $1)", is(1, 2, 3)}, row{"union(main, all())", h.everyone()}, row{"union($9, $8, $7, $6, $5, $4, $3)", is(3, 4, 5, 6, 7, 8, 9)},
		row{"common($3)", is(3)}, row{"common(none())", nil}, row{"common(all(), $3|$4)", is(3, 4)}, row{"common($3|$4, $4|$5, $4|$6)", is(4)}, row{"common($3, $4)", nil}, row{"common(none(), all())", nil}, row{"common(all(), none())", nil}, row{"common(all(), all())", h.everyone()}, row{"common($3|$4|$5, $5|$4, all(), $3|$5)", is(5)}, row{"common($3|$4, $3, $4)", nil},
		row{"union(common($3|$4, $4), common($5, $5))", is(4, 5)},
	)
}

func TestCount(t *testing.T) {
	h := shapes(t)
	h.wantRows(
		row{"latest(all(), count(all()))", h.everyone()}, row{"latest($3|$4, count(none()))", nil}, row{"latest($3|$4, count($3|$3))", is(4)}, row{"latest(all(), count($3|$4))", is(2, 12)},
		row{"ancestors($11, count($3|$4))", is(0, 1, 2, 4, 5, 6, 7, 8, 10, 11)}, row{"ancestors($11, count(none()))", is(11)}, row{"ancestors($3, count(all()))", is(0, 1, 2, 3)},
		row{"before(all(), count($3))", is(9)}, row{"before(all(), count(none()))", nil}, row{"since(all(), count(all()))", nil}, row{"since(all(), count(ancestors($7)))", is(2, 8, 12)}, row{"latest(all(), count(latest(all(), count(tags() & $0))))", is(h.lesser(2, 12))},
	)
}

// P25.1: a number and a text as a whole, whatever is missing in them.
func TestNoSets(t *testing.T) {
	h := shapes(t)
	for what, g := range h.views() {
		for s, at := range map[string]int{
			"3": 0, " 3": 1, "((3))": 2, "'x'": 0, "\t'main'": 1, "''": 0, "0": 0, "count(main)": 0, "  count(main)": 2, "(count(all()))": 1, "count(nobody)": 0, " count(touching(nobody, 'A'))": 1, "count(ref('nobody'))": 0, "count(#0000000000000000)": 0,
		} {
			h.wantError(what, g, s, at, api.ErrType)
		}
	}
}

// refused is a text, the place of its error, and that.
type refused struct {
	s  string
	at int
	e  api.Errno
}

// wantErrors asks for errors over all views of a history.
func (h *history) wantErrors(list ...refused) {
	h.t.Helper()
	for what, g := range h.views() {
		for _, c := range list {
			h.wantError(what, g, c.s, c.at, c.e)
		}
	}
}

// P25.1, P25.2: parse's errors come ahead of check's, these ahead of ErrType of the whole, that ahead of what is missing and of what is no path.
func TestErrorsInOrder(t *testing.T) {
	shapes(t).wantErrors(
		refused{"", 0, api.ErrSyntax}, refused{"main |", 6, api.ErrSyntax}, refused{"nobody |", 8, api.ErrSyntax}, refused{"f(3) nobody", 5, api.ErrSyntax}, refused{"nobody^0", 7, api.ErrSyntax}, refused{"a..b..c", 4, api.ErrSyntax}, refused{"touching(nobody, 'A'", 20, api.ErrSyntax}, refused{"3 | | 3", 4, api.ErrSyntax},
		refused{"nobody | 'A", 9, api.ErrToken}, refused{"f() A", 4, api.ErrToken}, refused{"#12 | nobody", 0, api.ErrToken}, refused{"count(3) | 012", 11, api.ErrToken}, refused{strings.Repeat(" ", 1025), 0, api.ErrLong}, refused{strings.Repeat("nobody|", 200), 0, api.ErrLong},
		refused{strings.Repeat("!", 24) + "nobody", 0, api.ErrDepth}, refused{strings.Repeat("!", 24) + "3", 0, api.ErrDepth}, refused{"f(" + strings.Repeat("!", 23) + "nobody)", 0, api.ErrDepth},
		refused{"nobody | 3", 9, api.ErrType}, refused{"touching(all(), 'A') | f()", 23, api.ErrFunc}, refused{"nobody & heads()", 9, api.ErrCount}, refused{"f(nobody)", 0, api.ErrFunc}, refused{"latest(nobody)", 0, api.ErrCount}, refused{"latest(nobody, 'A')", 15, api.ErrType}, refused{"touching(nobody, 3)", 17, api.ErrType}, refused{"ref(nobody)", 4, api.ErrType}, refused{"count(nobody|3)", 13, api.ErrType}, refused{"count(3)", 6, api.ErrType}, refused{"count(f())", 6, api.ErrFunc},
		refused{"count(nobody)", 0, api.ErrType}, refused{"count(touching(all(), 'A'))", 0, api.ErrType},
	)
}

// P25.1: of what is missing, and what is no path, what is met first: the first Kid's ahead of the second's, a Kid's ahead of the node's own.
func TestFirstMet(t *testing.T) {
	shapes(t).wantErrors(
		refused{"nobody | noone", 0, api.ErrMissing}, refused{"main | noone", 7, api.ErrMissing}, refused{"nobody - main", 0, api.ErrMissing}, refused{"main & (side .. nobody)", 16, api.ErrMissing}, refused{"nobody::noone", 0, api.ErrMissing}, refused{"!nobody", 1, api.ErrMissing}, refused{"!!(nobody)", 3, api.ErrMissing}, refused{"nobody^2", 0, api.ErrMissing},
		refused{"none() & nobody", 9, api.ErrMissing}, refused{"none()..nobody", 8, api.ErrMissing}, refused{"nobody - nobody", 0, api.ErrMissing}, refused{"all() | nobody", 8, api.ErrMissing},
		refused{"ref('nobody') | tag('noone')", 0, api.ErrMissing}, refused{"main | tag('noone')", 7, api.ErrMissing}, refused{"heads(ref('nobody'))", 6, api.ErrMissing}, refused{"heads(main | tag('main'))", 13, api.ErrMissing},
		refused{"#0000000000000001 | nobody", 0, api.ErrMissing}, refused{"nobody | #0000000000000001", 0, api.ErrMissing}, refused{"main::#0000000000000001", 6, api.ErrMissing},
		refused{"touching(nobody, 'A')", 9, api.ErrMissing}, refused{"touching(main, 'A')", 15, api.ErrName}, refused{"touching(main,\t 'A')", 16, api.ErrName}, refused{"touching(touching(main, 'B'), 'A')", 24, api.ErrName}, refused{"touching(touching(main, 'b'), 'A')", 30, api.ErrName},
		refused{"touching(main, 'A') | nobody", 15, api.ErrName}, refused{"nobody | touching(main, 'A')", 0, api.ErrMissing}, refused{"main | touching(main, 'A') | nobody", 22, api.ErrName}, refused{"touching(main, 'a') | nobody", 22, api.ErrMissing}, refused{"touching(main, 'A')..(nobody)", 15, api.ErrName}, refused{"(touching(main, 'A'))^ - nobody", 16, api.ErrName},
		refused{"latest(nobody, count(noone))", 7, api.ErrMissing}, refused{"latest(main, count(noone))", 19, api.ErrMissing}, refused{"latest(main, count(touching(main, '')))", 34, api.ErrName}, refused{"before(touching(main, ''), count(nobody))", 22, api.ErrName}, refused{"ancestors(main, count(nobody))", 22, api.ErrMissing}, refused{"ancestors(main, 3) | nobody", 21, api.ErrMissing},
		refused{"union(main, side, nobody, noone)", 18, api.ErrMissing}, refused{"common(none(), none(), nobody)", 23, api.ErrMissing}, refused{"union(main, touching(none(), ' '), nobody)", 29, api.ErrName}, refused{"union(main, nobody, touching(none(), ' '))", 12, api.ErrMissing},
		refused{"main - (side - (v1 - (lone - nobody)))", 29, api.ErrMissing}, refused{"(((main - side) - nobody) - noone) - v1", 18, api.ErrMissing}, refused{"bases(all() | nobody) | noone", 14, api.ErrMissing},
	)
}

// A text that is no touching's is no path's: it may be anything.
func TestOtherTexts(t *testing.T) {
	h := shapes(t)
	g := graph.New(h.s, nil)
	h.wantError("a ref", g, "ref('A b')", 0, api.ErrMissing)
	h.wantError("a tag", g, "main | tag('a//b')", 7, api.ErrMissing)
	h.wantError("a ref ahead of a path", g, "touching(ref('A'), 'A')", 9, api.ErrMissing)
}

// P25.3: of no list, one, several; of such as do not rise and hold an ID twice.
func TestUnion(t *testing.T) {
	type ids = []api.ID
	for _, c := range []struct {
		sets []ids
		want ids
	}{
		{nil, nil}, {[]ids{}, nil}, {[]ids{nil}, nil}, {[]ids{{}, nil, {}}, nil},
		{[]ids{{7}}, ids{7}}, {[]ids{{0}}, ids{0}}, {[]ids{{0, 0}, {0}}, ids{0}}, {[]ids{{math.MaxUint64}, {0}}, ids{0, math.MaxUint64}},
		{[]ids{{1, 2, 3}}, ids{1, 2, 3}}, {[]ids{{3, 2, 1}}, ids{1, 2, 3}}, {[]ids{{2, 1, 2, 2, 1}}, ids{1, 2}}, {[]ids{{5, 5, 5, 5}}, ids{5}},
		{[]ids{{3, 1}, nil, {2, 3}}, ids{1, 2, 3}}, {[]ids{{1, 2}, {3, 4}}, ids{1, 2, 3, 4}}, {[]ids{{3, 4}, {1, 2}}, ids{1, 2, 3, 4}}, {[]ids{{1, 3}, {2, 4}, {1, 4}, {3}}, ids{1, 2, 3, 4}}, {[]ids{nil, {9}, nil}, ids{9}},
		{[]ids{{1 << 63, 1<<63 - 1, 1, math.MaxUint64, 0}, {1 << 63, math.MaxUint64 - 1}}, ids{0, 1, 1<<63 - 1, 1 << 63, math.MaxUint64 - 1, math.MaxUint64}},
	} {
		if got := Union(c.sets...); !slices.Equal(got, c.want) {
			t.Errorf("%v: %v, want %v", c.sets, got, c.want)
		}
	}
	if got := Union(); len(got) != 0 {
		t.Error(got)
	}
}

// P25.3: random lists.
func TestRandomUnions(t *testing.T) {
	r := rand.New(rand.NewSource(25))
	for range 3000 {
		in := map[api.ID]int{}
		sets := make([][]api.ID, r.Intn(6))
		for i := range sets {
			for range r.Intn(12) {
				id := pick(r, []api.ID{api.ID(r.Intn(9)), api.ID(r.Uint64()), 0, math.MaxUint64, math.MaxUint64 - api.ID(r.Intn(3))})
				sets[i] = append(sets[i], id)
				in[id]++
			}
		}
		var want []api.ID
		for id := range in {
			want = append(want, id)
		}
		slices.Sort(want)
		if got := Union(sets...); !slices.Equal(got, want) {
			t.Fatalf("%v: %v, want %v", sets, got, want)
		}
	}
}

// whole is a list with its spare room.
func whole[T any](list []T) []T { return list[:cap(list)] }

// fill writes into all of a list, and into its spare room.
func fill[T any](list []T, with T) {
	for i := range whole(list) {
		whole(list)[i] = with
	}
}

// Rule 3: what is handed to Union is not changed, nor its spare room, nor kept; what is answered is new memory.
func TestMemoryOfUnion(t *testing.T) {
	for _, numbers := range [][][]api.ID{{{3, 1, 1}}, {{1, 2, 3}}, {{5}, {}}, {{}, {5}}, {{2, 1}, {4, 3}, {2}}, {{1}, {2}, {3}}, {}} {
		var sets, was [][]api.ID
		for _, list := range numbers {
			roomy := slices.Repeat([]api.ID{77}, len(list)+9)
			copy(roomy, list)
			was = append(was, slices.Clone(roomy))
			sets = append(sets, roomy[:len(list)])
		}
		first, second := Union(sets...), Union(sets...)
		for i := range sets {
			if !slices.Equal(whole(sets[i]), was[i]) {
				t.Errorf("%v: what is handed in is changed", numbers)
			}
		}
		want := slices.Clone(second)
		fill(first, 66)
		for i := range sets {
			if !slices.Equal(whole(sets[i]), was[i]) {
				t.Errorf("%v: an answer shares memory with what is handed in", numbers)
			}
			fill(sets[i], 55)
		}
		if !slices.Equal(second, want) {
			t.Errorf("%v: answers share memory", numbers)
		}
	}
}

// withRoom is a node whose lists all have spare room, in which something stands.
func withRoom(n parse.Node) parse.Node {
	kids := make([]parse.Node, len(n.Kids), len(n.Kids)+2)
	for i, kid := range n.Kids {
		kids[i] = withRoom(kid)
	}
	for i := len(kids); i < cap(kids); i++ {
		whole(kids)[i] = parse.Node{Op: parse.OpName, Text: "spare", At: i}
	}
	n.Kids = kids
	return n
}

// lists are all lists of Kids in a node.
func lists(n parse.Node) [][]parse.Node {
	found := [][]parse.Node{n.Kids}
	for _, kid := range n.Kids {
		found = append(found, lists(kid)...)
	}
	return found
}

func nodeOf(t testing.TB, s string) parse.Node {
	t.Helper()
	n, at, e := parse.Parse(s)
	if e != api.OK {
		t.Fatalf("%s: %d, %v", short(s), at, e)
	}
	return n
}

// Rule 3: Eval changes nothing of a node, nor of its spare room, and keeps nothing of it; what is answered is new memory.
func TestMemory(t *testing.T) {
	h := shapes(t)
	for what, g := range h.views() {
		for _, s := range append(h.everyRow(), "main|nobody", "touching(all(), 'A')", "f(main)", "count(all())") {
			n := withRoom(nodeOf(t, s))
			before := fmt.Sprintf("%+v %+v", n, lists(n))
			want, at, e := h.plainEval(n)
			first, _, _ := Eval(g, n)
			second, _, _ := Eval(g, n)
			if after := fmt.Sprintf("%+v %+v", n, lists(n)); after != before {
				t.Errorf("%s: %s: handed in, and changed: %s, was %s", what, s, after, before)
			}
			fill(first, 66)
			for _, list := range lists(n) {
				fill(list, parse.Node{Op: parse.OpName, Text: "filled"})
			}
			if !slices.Equal(second, want) {
				t.Errorf("%s: %s: answers share memory", what, s)
			}
			h.wantRun(what, g, s, want, at, e)
		}
		h.holdAll(what, g)
	}
}

// Rule 4: a node is asked anew each time, so that one that was changed comes to something else.
func TestNodesAreNotKept(t *testing.T) {
	h := shapes(t)
	g := graph.New(h.s, nil)
	kids := []parse.Node{nodeOf(t, "main"), nodeOf(t, "side")}
	n := parse.Node{Op: parse.OpOr, Kids: kids}
	h.wantEval("first", g, n, h.ids(h.those(func(c int) bool { return c == 11 || c == 12 })), 0, api.OK)
	kids[1] = nodeOf(t, " nobody")
	h.wantEval("missing", g, n, nil, 1, api.ErrMissing)
	kids[1] = nodeOf(t, "main")
	h.wantEval("changed", g, n, h.of(11), 0, api.OK)
}

// P25.1: nodes of parse.Call: its place is 0, its Kids keep theirs.
func TestCalled(t *testing.T) {
	h := shapes(t)
	main, v1, nobody := nodeOf(t, "   main"), nodeOf(t, "  v1"), nodeOf(t, "     nobody")
	three, file, none := nodeOf(t, "    3"), nodeOf(t, " 'a'"), nodeOf(t, "      'A'")
	both := nodeOf(t, " main | v1")
	for what, g := range h.views() {
		for _, c := range []struct {
			n       parse.Node
			numbers []int
			at      int
			e       api.Errno
		}{
			{parse.Call("all"), h.everyone(), 0, api.OK},
			{parse.Call("none"), nil, 0, api.OK},
			{parse.Call("union", main, v1), is(0, 11), 0, api.OK},
			{parse.Call("heads", both), is(11), 0, api.OK},
			{parse.Call("heads", parse.Call("all")), is(9, 11, 12, 13), 0, api.OK},
			{parse.Call("touching", parse.Call("all"), file), is(0, 1, 8, 10), 0, api.OK},
			{parse.Call("latest", parse.Call("all"), parse.Call("count", both)), is(2, 12), 0, api.OK},
			{parse.Call("latest", parse.Call("all"), three), is(2, 8, 12), 0, api.OK},
			{parse.Call("tag", nodeOf(t, "'lone'")), is(9), 0, api.OK},
			{parse.Call("f", main), nil, 0, api.ErrFunc},
			{parse.Call("", main), nil, 0, api.ErrFunc},
			{parse.Call("All"), nil, 0, api.ErrFunc},
			{parse.Call("heads", main, main), nil, 0, api.ErrCount},
			{parse.Call("heads", three), nil, 4, api.ErrType},
			{parse.Call("count", nobody), nil, 0, api.ErrType},
			{parse.Call("union", main, nobody), nil, 5, api.ErrMissing},
			{parse.Call("ref", file), nil, 0, api.ErrMissing},
			{parse.Call("union", main, parse.Call("tag", none), nobody), nil, 0, api.ErrMissing},
			{parse.Call("touching", main, none), nil, 6, api.ErrName},
			{parse.Call("touching", nobody, none), nil, 5, api.ErrMissing},
			{parse.Call("touching", parse.Call("touching", main, none), file), nil, 6, api.ErrName},
		} {
			want := h.of(c.numbers...)
			slices.Sort(want)
			h.wantEval(what, g, c.n, want, c.at, c.e)
			h.holdNode(what, g, c.n)
		}
	}
}

// P25.1: nodes with other places: the error's is the node's, whatever it is.
func TestOtherPlaces(t *testing.T) {
	h := shapes(t)
	g := h.covers()
	for _, place := range []int{0, 1, -1, 77, 5000, math.MaxInt, math.MinInt} {
		for s, e := range map[string]api.Errno{"nobody": api.ErrMissing, "main|#0000000000000001": api.ErrMissing, "heads(ref('v1'))": api.ErrMissing, "touching(main, '')": api.ErrName, "count(main)": api.ErrType, "3": api.ErrType, "f()": api.ErrFunc, "heads()": api.ErrCount} {
			h.wantEval(s, g, placed(nodeOf(t, s), func() int { return place }), nil, place, e)
		}
		h.wantEval("main", g, placed(nodeOf(t, "main|main"), func() int { return place }), h.of(11), 0, api.OK)
	}
}

// A store without commits.
func TestEmptyStore(t *testing.T) {
	h := newHistory(t)
	h.blob(1)
	for what, g := range map[string]*graph.Graph{"nil": graph.New(h.s, nil), "none": graph.New(h.s, h.c)} {
		for _, s := range []string{"all()", "none()", "refs()", "tags()", "!all()", "!none()", "!!all()", "all()|none()", "all()..all()", "all()::all()", "all()^", "all()^2", "ancestors(all())", "ancestors(all(), 3)", "descendants(all())", "parents(all())", "children(all())", "heads(all())", "roots(all())", "merges(all())", "bases(all())", "touching(all(), 'a')", "latest(all(), 3)", "before(all(), 3)", "since(all(), 0)", "union(all())", "common(all(), all())", "latest(all(), count(all()))"} {
			h.wantSet(what, g, s)
		}
		for _, s := range []string{"main", "ref('main')", "tag('main')", "#0000000000000000", "#ffffffffffffffff", hash(h.blob(1))} {
			h.wantError(what, g, s, 0, api.ErrMissing)
		}
		h.wantError(what, g, "touching(all(), 'A')", 16, api.ErrName)
	}
}

// One commit, a line, a fork, a merge of two and of MaxParents parents, several roots: each row.
func TestSmallShapes(t *testing.T) {
	for name, parents := range map[string][][]int{
		"one":          {nil},
		"line":         {nil, {0}, {1}, {2}},
		"fork":         {nil, {0}, {0}, {0}},
		"merge":        {nil, {0}, {0}, {2, 1}},
		"wide merge":   {nil, {0}, {0}, {0}, {0}, {0}, {0}, {0}, {1, 2, 3, 4, 5, 6, 7, 0}},
		"roots":        {nil, nil, nil},
		"roots merged": {nil, nil, nil, {0, 1, 2}},
		"criss-cross":  {nil, {0}, {0}, {1, 2}, {2, 1}},
	} {
		for _, dates := range [][]int64{{3}, {1, 2, 3}, {9, 4, 4}} {
			h := newHistory(t)
			for k, above := range parents {
				h.commit(dates[k%len(dates)], texts{"a": 1 + k/2, "d/x": 1 + k%3}, above...)
			}
			h.ref("a", 0)
			h.ref("b", len(parents)-1)
			h.tag("c", len(parents)/2)
			h.tag("a", len(parents)/2)
			for what, g := range h.views() {
				for _, s := range fewRows {
					h.hold(name+", "+what, g, s)
				}
			}
		}
	}
}

// fewRows are texts of each row with three names.
var fewRows = []string{
	"a", "b", "c", "tag('a')", "ref('a')", "all()", "none()", "refs()", "tags()", "a|b", "b|c", "b-a", "a-b", "b&c", "a&all()", "!b", "!(a|c)", "!all()", "a..b", "b..a", "c..b", "a|c..b", "(a|b)..c", "none()..b", "a..none()", "a::b", "b::a", "c::b", "(a|c)::b", "a::(b|c)", "none()::b",
	"b^", "b^1", "b^2", "b^3", "all()^", "all()^2", "b^^", "c^", "ancestors(b)", "ancestors(a|c)", "ancestors(b, 0)", "ancestors(b, 1)", "ancestors(b, 2)", "ancestors(b|c, 1)", "ancestors(all(), 1)", "descendants(a)", "descendants(c)", "descendants(a|b)", "parents(b)", "parents(all())", "children(a)", "children(a|c)", "children(all())",
	"heads(all())", "heads(a|b)", "heads(a|b|c)", "heads(!b)", "roots(all())", "roots(a|b)", "roots(b|c)", "roots(!a)", "merges(all())", "merges(b)", "bases(all())", "bases(a|b)", "bases(b|c)", "bases(heads(all()))", "bases(heads(!b))", "bases(none())", "touching(all(), 'a')", "touching(all(), 'd')", "touching(b, 'd/x')", "touching(all(), 'z')",
	"latest(all(), 0)", "latest(all(), 1)", "latest(all(), 2)", "latest(a|b, 1)", "latest(all(), 9)", "before(all(), 2)", "before(all(), 3)", "since(all(), 2)", "since(all(), 4)", "union(a)", "union(a, b)", "union(c, a, b)", "common(a)", "common(all(), b)", "common(a|b, b|c)", "common(a|c, b|c, a|b)", "latest(all(), count(a|b))", "ancestors(b, count(a|c))",
}

// everyPlaces calls do with each list of so many places below count.
func everyPlaces(count, most int, do func([]int)) {
	places := make([]int, 0, most)
	var next func()
	next = func() {
		do(places)
		if len(places) == most {
			return
		}
		for k := range count {
			places = append(places, k)
			next()
			places = places[:len(places)-1]
		}
	}
	next()
}

// small is a history of a fork, two merges and another root, with the names a, b and c.
func small(t testing.TB) *history {
	t.Helper()
	h := newHistory(t)
	h.commit(2, texts{"a": 1})
	h.commit(3, texts{"a": 2}, 0)
	h.commit(2, texts{"a": 1, "d/x": 1}, 0)
	h.commit(1, texts{"a": 2, "d/x": 1}, 1, 2)
	h.commit(3, nil)
	h.commit(3, texts{"a": 2, "d/x": 1}, 3, 4)
	h.commit(4, texts{"a": 3, "d/x": 1}, 3)
	h.ref("a", 1)
	h.ref("b", 5)
	h.tag("c", 6)
	h.tag("b", 2)
	return h
}

// P25.1, P25.2: all texts of up to five pieces, those that Parse refuses too.
func TestAllTexts(t *testing.T) {
	h := small(t)
	h.write(1)
	views := []*graph.Graph{graph.New(h.s, nil), graph.New(h.s, h.c), h.covers()}
	answers, sets := map[api.Errno]int{}, map[string]int{}
	asked := 0
	for _, pieces := range [][]string{
		{"a", "b", "n", "!", "^", "2", "|", "-", "&", "(", ")"},
		{"a", "b", "n", "..", "::", "all()", "!", "^2", "("},
		{"a", "n", "touching(", ", 'a')", ", 'A')", "ref('a')", "ref('c')", "|", "!"},
		{"a", "b", "3", "latest(", "ancestors(", "count(", "union(", ",", ")"},
	} {
		everyPlaces(len(pieces), 5, func(places []int) {
			s := ""
			for _, place := range places {
				s += pieces[place] + " "
			}
			n, at, e := parse.Parse(s)
			asked++
			g := views[asked%len(views)]
			if e != api.OK {
				h.wantRun("refused", g, s, nil, at, e)
				return
			}
			ids, at, e := h.plainEval(n)
			h.wantRun("all texts", g, s, ids, at, e)
			h.wantEval("all texts", g, n, ids, at, e)
			answers[e]++
			sets[h.told(ids)]++
		})
		if t.Failed() {
			t.FailNow()
		}
	}
	if answers[api.OK] < 600 || answers[api.ErrMissing] < 600 || answers[api.ErrName] < 20 || answers[api.ErrType] < 500 || answers[api.ErrFunc] < 100 || answers[api.ErrCount] < 40 || len(sets) < 30 {
		t.Error("met too seldom to tell much:", answers, len(sets))
	}
}

// setsOf are texts of sets of so many pieces, of those with fewer: each row of the table.
func setsOf(of [][]string, pieces int) []string {
	if pieces == 1 {
		return []string{"a", "b", "c", "tag('b')", "all()", "none()"}
	}
	var list []string
	for _, x := range of[pieces-1] {
		for _, name := range []string{"ancestors", "descendants", "parents", "children", "heads", "roots", "merges", "bases", "union"} {
			list = append(list, name+"("+x+")")
		}
		list = append(list, "!("+x+")", "("+x+")^2")
	}
	if pieces == 2 {
		return append(list, "refs()", "tags()")
	}
	for _, x := range of[pieces-2] {
		for _, n := range []string{"0", "1", "2", "3", "count(" + x + ")"} {
			list = append(list, "latest("+x+", "+n+")")
		}
		list = append(list, "ancestors("+x+", 1)", "ancestors("+x+", 2)", "before("+x+", 3)", "since("+x+", 2)", "touching("+x+", 'a')", "touching("+x+", 'd')")
	}
	for first := 1; first+1 < pieces; first++ {
		for _, x := range of[first] {
			for _, y := range of[pieces-1-first] {
				for _, sign := range []string{"|", "-", "&", "..", "::"} {
					list = append(list, "("+x+")"+sign+"("+y+")")
				}
				list = append(list, "common("+x+", "+y+")")
			}
		}
	}
	return list
}

// P25.1: all expressions that come to a set, of up to four pieces.
func TestAllSets(t *testing.T) {
	h := small(t)
	h.write(3)
	views := []*graph.Graph{graph.New(h.s, nil), graph.New(h.s, h.c), h.covers()}
	of := [][]string{nil}
	sets := map[string]int{}
	for pieces := 1; pieces <= 4; pieces++ {
		of = append(of, setsOf(of, pieces))
		for at, s := range of[pieces] {
			n := nodeOf(t, s)
			ids, place, e := h.plainEval(n)
			if e != api.OK {
				t.Fatal(s, place, e)
			}
			for k, g := range views {
				if pieces < 4 || at%len(views) == k {
					h.wantEval("all sets", g, n, ids, 0, api.OK)
					h.wantRun("all sets", g, s, ids, 0, api.OK)
				}
			}
			sets[h.told(ids)]++
		}
		if t.Failed() {
			t.FailNow()
		}
	}
	if len(of[4]) < 10000 || len(sets) < 40 {
		t.Error("too few expressions, or sets:", len(of[4]), len(sets))
	}
}

// shapesOf: all choices of parents of so many commits.
func shapesOf(n int) [][][]int {
	if n == 0 {
		return [][][]int{nil}
	}
	var all [][][]int
	for _, below := range shapesOf(n - 1) {
		for bits := range 1 << (n - 1) {
			var parents []int
			for k := range n - 1 {
				if bits>>k&1 == 1 {
					parents = append(parents, k)
				}
			}
			if bits%2 == 1 {
				slices.Reverse(parents)
			}
			all = append(all, append(slices.Clone(below), parents))
		}
	}
	return all
}

// P25.1, P25.4: all histories of up to four commits, of two Dates and two contents, with a, b and c at any of them.
func TestAllSmallHistories(t *testing.T) {
	at := 0
	for n := 1; n <= 4; n++ {
		for _, shape := range shapesOf(n) {
			for bits := range 1 << n {
				at++
				h := newHistory(t)
				for k, parents := range shape {
					h.commit(int64(2+bits>>k&1), texts{"a": 1 + (at>>k)&1, "d/x": 1 + (bits+k)&1}, parents...)
				}
				h.ref("a", at%n)
				h.ref("b", at/5%n)
				h.tag("c", at/3%n)
				h.tag("a", at/7%n)
				switch at % 4 {
				case 1:
					h.write()
				case 2:
					h.write(n / 2)
				case 3:
					h.write(0)
					h.write()
				}
				g := graph.New(h.s, h.c)
				for _, s := range fewRows {
					h.hold("small", g, s)
				}
				if t.Failed() {
					t.Fatal(shape, bits)
				}
			}
		}
	}
}

func pick[T any](r *rand.Rand, list []T) T { return list[r.Intn(len(list))] }

// grow puts a commit above some that are there, mostly late ones.
func (h *history) grow(r *rand.Rand) {
	h.t.Helper()
	n := len(h.puts)
	parents := r.Perm(n)
	if late := min(n, 6); r.Intn(4) > 0 {
		parents = nil
		for _, k := range r.Perm(late) {
			parents = append(parents, n-1-k)
		}
	}
	parents = parents[:min(len(parents), pick(r, []int{0, 1, 1, 1, 1, 1, 2, 2, 2, 3, 8}))]
	files := texts{}
	if len(parents) > 0 {
		for p, in := range h.puts[parents[0]].files {
			files[p] = in
		}
	}
	for range r.Intn(4) {
		p := pick(r, []string{"a", "d/x", "d/y", "d.x", "e/f/g", "q"})
		if delete(files, p); r.Intn(3) > 0 {
			files[p] = 1 + r.Intn(3)
		}
	}
	h.commit(pick(r, []int64{0, 1, 1, 2, 2, 2, 5, int64(n), int64(n), api.MaxDate, r.Int63n(api.MaxDate)}), files, parents...)
}

// maker makes random nodes over a history: most without a fault.
type maker struct {
	*rand.Rand
	h *history
	// How many of a hundred are something else than is wanted.
	odd int
}

func (m maker) isOdd() bool { return m.Intn(100) < m.odd }

func (m maker) atom() parse.Node {
	if m.isOdd() {
		return pick(m.Rand, []parse.Node{
			{Op: parse.OpName, Text: "nobody"}, {Op: parse.OpHash, ID: pick(m.Rand, m.h.strangers())}, {Op: parse.OpNum, Num: 3}, {Op: parse.OpText, Text: "a"}, m.call("f"), m.call("all", m.text("a")), m.call("heads"),
			m.call("ref", m.text("x9")), m.call("tag", m.text("r0")), m.call("touching", m.call("all"), m.text("A")),
		})
	}
	name := pick(m.Rand, []string{"r0", "r1", "r2", "both", "t0", "t1"})
	switch m.Intn(8) {
	case 0, 1, 2:
		return parse.Node{Op: parse.OpName, Text: name}
	case 3, 4:
		return parse.Node{Op: parse.OpHash, ID: pick(m.Rand, m.h.puts).id}
	case 5:
		return m.call("ref", m.text(pick(m.Rand, []string{"r0", "both"})))
	case 6:
		return m.call("tag", m.text(pick(m.Rand, []string{"t1", "both"})))
	}
	return m.call(pick(m.Rand, []string{"all", "none", "refs", "tags"}))
}

func (m maker) call(name string, kids ...parse.Node) parse.Node {
	return parse.Node{Op: parse.OpCall, Text: name, Kids: kids}
}

func (m maker) text(s string) parse.Node { return parse.Node{Op: parse.OpText, Text: s} }

func (m maker) number(size int) parse.Node {
	if m.Intn(3) == 0 {
		return m.call("count", m.set(size))
	}
	return parse.Node{Op: parse.OpNum, Num: pick(m.Rand, []int{0, 1, 2, 3, 5, 30, 999999999, m.Intn(40)})}
}

// set is a node of about so many nodes that mostly comes to a set.
func (m maker) set(size int) parse.Node {
	if size <= 1 {
		return m.atom()
	}
	size--
	left := m.Intn(size)
	switch m.Intn(8) {
	case 0:
		return parse.Node{Op: parse.OpNot, Kids: []parse.Node{m.set(size)}}
	case 1:
		return parse.Node{Op: parse.OpUp, Num: pick(m.Rand, []int{0, 0, 1, 2, 3, 9}), Kids: []parse.Node{m.set(size)}}
	case 2, 3:
		op := pick(m.Rand, []parse.Op{parse.OpOr, parse.OpOr, parse.OpMinus, parse.OpAnd, parse.OpRange, parse.OpBetween})
		return parse.Node{Op: op, Kids: []parse.Node{m.set(left), m.set(size - left)}}
	case 4:
		return m.call(pick(m.Rand, []string{"latest", "before", "since", "ancestors"}), m.set(size-left), m.number(left))
	case 5:
		return m.call("touching", m.set(size), m.text(pick(m.Rand, []string{"a", "d", "d/x", "q", "e/f", "zz"})))
	case 6:
		kids := []parse.Node{m.set(size / 2)}
		for range m.Intn(4) {
			kids = append(kids, m.set(size/4))
		}
		return m.call(pick(m.Rand, []string{"union", "common"}), kids...)
	}
	return m.call(pick(m.Rand, []string{"ancestors", "descendants", "parents", "children", "heads", "roots", "merges", "bases"}), m.set(size))
}

// randomHistory has some commits, refs and tags, and layers of some of them.
func randomHistory(t testing.TB, r *rand.Rand) (*history, *graph.Graph) {
	t.Helper()
	h := newHistory(t)
	for range 1 + r.Intn(30) {
		h.grow(r)
	}
	for range 3 {
		if r.Intn(3) > 0 {
			h.write(r.Intn(len(h.puts)), r.Intn(len(h.puts)))
		}
	}
	if r.Intn(3) == 0 {
		h.write()
	}
	g := graph.New(h.s, h.c)
	if r.Intn(5) == 0 {
		g = graph.New(h.s, nil)
	}
	for range pick(r, []int{0, 0, 1, 2}) {
		h.grow(r)
	}
	for _, name := range []string{"r0", "r1", "r2", "both"} {
		h.ref(name, r.Intn(len(h.puts)))
	}
	for _, name := range []string{"t0", "t1", "both"} {
		h.tag(name, r.Intn(len(h.puts)))
	}
	return h, g
}

// P25.1, P25.2, P25.4, P0.1: random expressions over random histories and chains, against the words of the chapter.
func TestRandom(t *testing.T) {
	r := rand.New(rand.NewSource(25))
	answers, sizes, calls, covered := map[api.Errno]int{}, map[int]int{}, map[string]int{}, map[bool]int{}
	for k := range 500 {
		h, g := randomHistory(t, r)
		covered[g.Covered()]++
		was := h.tell()
		for range 60 {
			m := maker{r, h, []int{0, 0, 3, 10, 30}[k%5]}
			n := m.set(1 + r.Intn(30))
			h.holdNode(fmt.Sprint("history ", k), g, n)
			ids, _, e := Eval(g, n)
			answers[e]++
			sizes[min(len(ids), 5)]++
			if e == api.OK {
				countCalls(n, calls)
			}
			if s := parse.Show(n); len(s) <= api.MaxExpr {
				h.hold(fmt.Sprint("history ", k), g, s)
			}
		}
		if h.tell() != was {
			t.Error("something was written")
		}
		if t.Failed() {
			t.FailNow()
		}
	}
	for _, e := range []api.Errno{api.OK, api.ErrMissing, api.ErrName, api.ErrType, api.ErrFunc, api.ErrCount} {
		if answers[e] < 100 {
			t.Error("met too seldom to tell much:", e, answers)
		}
	}
	if sizes[0] < 1000 || sizes[1] < 1000 || sizes[3] < 500 || sizes[5] < 1000 || len(calls) != 21 || covered[true] < 50 || covered[false] < 50 {
		t.Error("met too seldom to tell much:", sizes, calls, covered)
	}
	for name, times := range calls {
		if times < 300 {
			t.Error("called too seldom to tell much:", name, times)
		}
	}
}

// countCalls counts the functions that are called in a node.
func countCalls(n parse.Node, calls map[string]int) {
	if n.Op == parse.OpCall {
		calls[n.Text]++
	}
	for _, kid := range n.Kids {
		countCalls(kid, calls)
	}
}

// P25.4: layers that were spoilt, and a chain that a cut left, change nothing that is answered.
func TestSpoiltLayersAndCuts(t *testing.T) {
	h := shapes(t)
	for _, n := range []int{0, 3, 7} {
		h.write(n)
	}
	h.write()
	first := h.d
	for _, name := range append(h.c.Names(), "chain") {
		file, _ := first.Read(name)
		for at := 0; at < len(file); at += 1 + len(file)/6 {
			h.d = first.Clone()
			h.must(h.d.Spoil(name, at, 4))
			h.open()
			h.holdAll(fmt.Sprint("spoilt ", name, " at ", at), graph.New(h.s, h.c))
		}
	}
	for after := range 7 {
		h.d = first.Clone()
		h.open()
		g := graph.New(h.s, h.c)
		h.must(h.d.Cut(after, 10))
		// Seven raw writes: the layer's file, the two of the swap, and four that go.
		if e := h.c.Merge(4); e != api.ErrDead {
			t.Fatal(after, e)
		}
		h.holdAll(fmt.Sprint("dead behind ", after), g)
		h.d.Restart()
		h.open()
		h.holdAll(fmt.Sprint("restarted behind ", after), graph.New(h.s, h.c))
	}
}

// P25.4: a graph that was made ahead of writes, merges and drops, and of new commits, refs and tags, answers as one made behind them.
func TestGraphsOfAllAges(t *testing.T) {
	h := shapes(t)
	var graphs []*graph.Graph
	made := func() { graphs = append(graphs, graph.New(h.s, h.c)) }
	asked := func(what string) {
		t.Helper()
		for at, g := range graphs {
			h.holdAll(fmt.Sprint(what, ", age ", at), g)
		}
	}
	made()
	h.write(2)
	made()
	h.write(7)
	made()
	h.must(h.c.Merge(2))
	made()
	asked("merged")
	h.must(h.c.Drop(1))
	made()
	h.write()
	n := h.commit(3, texts{"a": 7, "d/y": 2}, 11, 9, 12)
	h.commit(9, texts{"a": 8})
	made()
	asked("new commits")
	h.ref("main", n)
	h.ref("new", n+1)
	h.tag("newer", n)
	h.drop("side")
	h.ref("side", 8)
	asked("other refs and tags")
}

// Rule 4: what is asked or done in between changes nothing that is answered.
func TestAskedInBetween(t *testing.T) {
	h := shapes(t)
	h.write(7)
	g := graph.New(h.s, h.c)
	for k, do := range []func(){
		func() {},
		func() { h.write() },
		func() { h.must(h.c.Drop(1)) },
		func() { g.Parents(h.puts[3].id); g.Content(h.puts[3].id) },
		func() { Run(g, "nobody"); Run(g, "(("); Run(g, "touching(all(), 'A')"); Run(g, "count(main)") },
		func() { other := small(t); other.hold("another one", graph.New(other.s, nil), "heads(all())") },
		func() { h.blob(99) },
		g.Reset,
	} {
		do()
		h.holdAll(fmt.Sprint("step ", k), g)
	}
}

// The same is read each time, in the same order: what is asked of the graph hangs on no map's order.
func TestSameReads(t *testing.T) {
	h := shapes(t)
	for what, g := range h.views() {
		for _, s := range h.everyRow() {
			var read, opened []api.ID
			for k := range 5 {
				g.Reset()
				Run(g, s)
				if k > 0 && (!slices.Equal(read, g.Read()) || !slices.Equal(opened, g.Opened())) {
					t.Fatal(what, s, "something else is read")
				}
				read, opened = g.Read(), g.Opened()
			}
		}
	}
}

// What layers say is used: of commits that surely don't touch a path no files are read.
func TestTouchingReads(t *testing.T) {
	h := shapes(t)
	g := h.covers()
	for _, p := range []string{"a", "d", "d/x", "zz", "q/r"} {
		var may []api.ID
		for _, put := range h.puts {
			if g.Maybe(put.id, p) {
				may = append(may, put.id)
			}
		}
		g.Reset()
		h.wantRun(p, g, "touching(all(), '"+p+"')", h.ids(h.those(func(c int) bool { return h.touches(c, p) })), 0, api.OK)
		if g.Trees() > 2*len(may) || len(may) == len(h.puts) {
			t.Errorf("%s: %d files are read, for %d commits", p, g.Trees(), len(may))
		}
	}
	g.Reset()
	Run(g, "all() | refs() - tags() & main | latest(all(), 3) | before(all(), 4) | !heads | ancestors(all(), 0)")
	if g.Visits() > 0 || g.Trees() > 0 {
		t.Error("read, though no parents are asked for:", g.Visits(), g.Trees())
	}
}

// Nothing is written, so that nothing hangs on the power.
func TestADeadDisk(t *testing.T) {
	h := shapes(t)
	all := h.views()
	h.must(h.d.Cut(0, 0))
	if e := h.s.SetTag("n", h.puts[3].id); e != api.ErrDead || !h.d.Dead() {
		t.Fatal(e)
	}
	for what, g := range all {
		h.holdAll(what, g)
		h.wantError(what, g, "n", 0, api.ErrMissing)
	}
}

// Commits, refs and tags last: the store opened anew answers the same.
func TestOpenedAnew(t *testing.T) {
	h := shapes(t)
	h.write(7)
	h.open()
	h.holdAll("anew", graph.New(h.s, h.c))
	h.d = h.d.Clone()
	h.open()
	h.drop("x1")
	h.tag("n", 3)
	h.holdAll("a clone", graph.New(h.s, h.c))
}

// Expressions of the greatest depth, of one beyond it, and of as many bytes as may be.
func TestDepths(t *testing.T) {
	h := shapes(t)
	for what, g := range h.views() {
		for _, depth := range []int{2, 3, 23, 24} {
			n := depth - 1
			closed := strings.Repeat(")", n)
			h.wantSet(what, g, strings.Repeat("heads(", n)+"main"+closed, 11)
			h.hold(what, g, strings.Repeat("!", n)+"main")
			h.hold(what, g, "main"+strings.Repeat("^", n))
			h.hold(what, g, strings.Repeat("children(", n)+"v1"+closed)
			h.hold(what, g, strings.Repeat("latest(all(), count(", n/2)+"main"+strings.Repeat("))", n/2))
			h.wantError(what, g, strings.Repeat("roots(", n)+"nobody"+closed, 6*n, api.ErrMissing)
		}
		h.wantError(what, g, strings.Repeat("heads(", 24)+"main"+strings.Repeat(")", 24), 0, api.ErrDepth)
		wide := "union(" + strings.Repeat("main, ", 169)
		h.wantSet(what, g, wide+"v1)", 0, 11)
		h.wantError(what, g, wide+"n)", 6+6*169, api.ErrMissing)
		h.wantError(what, g, wide+"main,main)", 0, api.ErrLong)
	}
}

// Rule 5: nodes far deeper and wider than Parse answers, as parse.Call may make them.
func TestBeyondDepth(t *testing.T) {
	h := small(t)
	g := graph.New(h.s, h.c)
	a, b, nobody := nodeOf(t, "a"), nodeOf(t, "b"), nodeOf(t, "   nobody")
	good, bad := a, nobody
	for range 1 << 14 {
		good = parse.Node{Op: parse.OpCall, Text: "union", Kids: []parse.Node{good, b}, At: 9}
		bad = parse.Node{Op: parse.OpCall, Text: "union", Kids: []parse.Node{a, bad}, At: 9}
	}
	want := h.ids(h.those(func(c int) bool { return c == 1 || c == 5 }))
	h.wantEval("deep", g, good, want, 0, api.OK)
	if ids, at, e := Eval(g, bad); len(ids) != 0 || at != 3 || e != api.ErrMissing {
		t.Error(len(ids), at, e)
	}
	heads := a
	for range 200 {
		heads = parse.Call("heads", heads)
	}
	h.wantEval("heads", g, heads, h.of(1), 0, api.OK)
	many := slices.Repeat([]parse.Node{a}, 5000)
	many[4000] = b
	for name, want := range map[string][]api.ID{"union": want, "common": nil} {
		if ids, at, e := Eval(g, parse.Call(name, many...)); !slices.Equal(ids, want) || at != 0 || e != api.OK {
			t.Error(name, h.told(ids), at, e)
		}
	}
	many[4999] = nobody
	if ids, at, e := Eval(g, parse.Call("union", many...)); len(ids) != 0 || at != 3 || e != api.ErrMissing {
		t.Error(len(ids), at, e)
	}
}

// Lines about MaxIndexed, with a side.
func TestLongLines(t *testing.T) {
	for _, n := range []int{249, 250, 251, 300} {
		h := line(t, n)
		side := h.commit(1, texts{"a": 1}, n/2)
		top := h.commit(0, texts{"a": 2}, n-1, side)
		h.ref("a", n/3)
		h.ref("b", top)
		h.tag("c", side)
		for what, g := range map[string]*graph.Graph{"nil": graph.New(h.s, nil), "some": h.covers(n / 2), "all": h.covers()} {
			what = fmt.Sprint(n, " ", what)
			h.wantRun(what, g, "heads(all())", h.of(top), 0, api.OK)
			h.wantRun(what, g, "roots(all())", h.of(0), 0, api.OK)
			h.wantRun(what, g, "bases(c | b^1)", h.of(n/2), 0, api.OK)
			for _, s := range []string{"a..b", "c..b", "b..c", "a::b", "a::c", "c::b", "descendants(a)", "children(a|c)", "ancestors(b, 5)", fmt.Sprintf("ancestors(b, %d)", n), fmt.Sprintf("ancestors(b^, %d)", n/2), "touching(a..b, 'a')", "latest(all(), 100)", "before(all(), 100)", "!ancestors(c)"} {
				ids, at, e := h.plainEval(nodeOf(t, s))
				h.wantRun(what, g, s, ids, at, e)
			}
		}
	}
}

// Rule 5: calls end soon on thousands of commits.
func TestMany(t *testing.T) {
	h := newHistory(t)
	tree, e := h.s.Tree()
	h.must(e)
	var line []api.ID
	for k := range 3000 {
		id, e := h.s.Commit(api.Commit{Tree: tree, Parents: line[max(0, k-1):k], Date: int64(k % 7)})
		h.must(e)
		line = append(line, id)
	}
	h.must(h.s.SetRef("main", line[2999]))
	h.must(h.s.SetRef("a", line[1000]))
	g := graph.New(h.s, nil)
	sorted := func(ids []api.ID) []api.ID {
		ids = slices.Clone(ids)
		slices.Sort(ids)
		return ids
	}
	for s, want := range map[string][]api.ID{
		"all()": sorted(line), "heads(all())": line[2999:], "roots(all())": line[:1], "bases(all())": line[:1], "a..main": sorted(line[1001:]), "a::main": sorted(line[1000:]), "descendants(a)": sorted(line[1000:]), "ancestors(main, 1999)": sorted(line[1000:]), "ancestors(main, 999999999)": sorted(line),
		"children(all())": sorted(line[1:]), "all()^": sorted(line[:2999]), "!all()": nil, "touching(all(), 'a')": nil, "heads(all()-main)": line[2998:2999], "common(all(), descendants(a), ancestors(a))": line[1000:1001],
		strings.Repeat("descendants(", 23) + "a" + strings.Repeat(")", 23): sorted(line[1000:]), strings.Repeat("roots(", 23) + "a" + strings.Repeat(")", 23): line[1000:1001], strings.Repeat("all()|", 20) + "a": sorted(line),
	} {
		if ids, at, e := Run(g, s); !slices.Equal(ids, want) || at != 0 || e != api.OK {
			t.Error(short(s), len(ids), len(want), at, e)
		}
	}
}

// Rule 5: many ways lead to each commit.
func TestManyWays(t *testing.T) {
	h := newHistory(t)
	h.commit(0, nil)
	for len(h.puts) < 200 {
		k := len(h.puts) - 1
		h.commit(1, texts{"a": 1 + k}, k)
		h.commit(1, texts{"b": 1 + k}, k)
		h.commit(2, texts{"a": 1 + k, "b": 1 + k}, k+1, k+2)
	}
	h.ref("a", 31)
	h.ref("b", len(h.puts)-1)
	h.tag("c", 152)
	for what, g := range map[string]*graph.Graph{"nil": graph.New(h.s, nil), "some": h.covers(70), "all": h.covers()} {
		for _, s := range fewRows {
			ids, at, e := h.plainEval(nodeOf(t, s))
			h.wantRun(what, g, s, ids, at, e)
		}
	}
}

// The ways that the chapter asks for.
func TestVariadic(t *testing.T) {
	if !reflect.TypeOf(Union).IsVariadic() {
		t.Error("Union isn't variadic")
	}
}
