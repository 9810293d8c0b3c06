package reach

import (
	"fmt"
	"math"
	"math/rand"
	"reflect"
	"slices"
	"strings"
	"testing"

	"forebear/api"
	"forebear/chain"
	"forebear/disk"
	"forebear/graph"
	"forebear/store"
)

// put is a commit as the tests put it: what is answered is held against it, not against what the store tells.
type put struct {
	id      api.ID
	parents []int
}

// history is a disk with a store and a chain, and its commits in the order in which they were put; a commit's number is its place there.
type history struct {
	t          testing.TB
	d          *disk.Disk
	s          *store.Store
	c          *chain.Chain
	tree, blob api.ID
	puts       []put
}

// newHistory puts commits, told each by the numbers of its parents.
func newHistory(t testing.TB, parents ...[]int) *history {
	t.Helper()
	h := &history{t: t, d: disk.New()}
	h.open()
	var e api.Errno
	if h.blob, e = h.s.Blob([]byte("1")); e != api.OK {
		t.Fatal(e)
	}
	if h.tree, e = h.s.Tree(api.Entry{Path: "a", Blob: h.blob}); e != api.OK {
		t.Fatal(e)
	}
	for _, list := range parents {
		h.commit(list...)
	}
	return h
}

// open opens store and chain anew.
func (h *history) open() {
	h.t.Helper()
	var e api.Errno
	if h.s, e = store.Open(h.d); e != api.OK {
		h.t.Fatal(e)
	}
	if h.c, e = chain.Open(h.d, h.s); e != api.OK {
		h.t.Fatal(e)
	}
}

// commit puts one above those of these numbers; its date makes it unlike the others.
func (h *history) commit(parents ...int) int {
	h.t.Helper()
	id, e := h.s.Commit(api.Commit{Tree: h.tree, Parents: h.of(parents...), Date: int64(len(h.puts))})
	if e != api.OK {
		h.t.Fatal(e)
	}
	h.puts = append(h.puts, put{id: id, parents: slices.Clone(parents)})
	return len(h.puts) - 1
}

// of is the IDs of the commits of these numbers.
func (h *history) of(numbers ...int) []api.ID {
	var ids []api.ID
	for _, n := range numbers {
		ids = append(ids, h.puts[n].id)
	}
	return ids
}

// sorted is the IDs of the commits of these numbers, rising.
func (h *history) sorted(numbers ...int) []api.ID {
	ids := h.of(numbers...)
	slices.Sort(ids)
	return ids
}

func (h *history) all() []int {
	var all []int
	for n := range h.puts {
		all = append(all, n)
	}
	return all
}

func (h *history) must(e api.Errno) {
	h.t.Helper()
	if e != api.OK {
		h.t.Fatal(e)
	}
}

// write lays a layer of the commits of these numbers and their ancestors; without numbers of all.
func (h *history) write(numbers ...int) {
	h.t.Helper()
	h.must(h.c.Write(h.of(numbers...)...))
}

// covers makes a graph whose chain covers the commits of these numbers and their ancestors; without numbers all.
func (h *history) covers(numbers ...int) *graph.Graph {
	h.t.Helper()
	for range h.c.Names() {
		h.must(h.c.Drop(1))
	}
	h.write(numbers...)
	return graph.New(h.s, h.c)
}

// strangers are IDs of no commit: of the tree and the blob, of nothing, and such as are near to those of commits.
func (h *history) strangers() []api.ID {
	ids := []api.ID{0, 1, 5, 1 << 63, math.MaxUint64, h.tree, h.blob}
	for _, p := range h.puts[:min(3, len(h.puts))] {
		ids = append(ids, p.id+1, p.id-1, ^p.id)
	}
	return slices.DeleteFunc(ids, func(id api.ID) bool {
		return slices.ContainsFunc(h.puts, func(p put) bool { return p.id == id })
	})
}

// set is which numbers are meant.
type set []bool

func (s set) numbers() []int {
	var out []int
	for n, in := range s {
		if in {
			out = append(out, n)
		}
	}
	return out
}

// from: itself and its ancestors, by the words of the chapter. None is put ahead of its parents.
func (h *history) from(tips ...int) set {
	in := make(set, len(h.puts))
	for _, n := range tips {
		in[n] = true
	}
	for n := len(h.puts) - 1; n >= 0; n-- {
		if in[n] {
			for _, p := range h.puts[n].parents {
				in[p] = true
			}
		}
	}
	return in
}

func (h *history) ancestor(a, b int) bool { return h.from(h.puts[b].parents...)[a] }

func (h *history) plainRange(tips, nots []int) []int {
	in, out := h.from(tips...), h.from(nots...)
	for n := range in {
		in[n] = in[n] && !out[n]
	}
	return in.numbers()
}

func (h *history) plainBetween(a, b int) []int {
	var list []int
	for _, n := range h.from(b).numbers() {
		if h.from(n)[a] {
			list = append(list, n)
		}
	}
	return list
}

// plainBest: those that are an ancestor of no other one.
func (h *history) plainBest(numbers []int) []int {
	below := h.from()
	for _, n := range numbers {
		for _, p := range h.from(h.puts[n].parents...).numbers() {
			below[p] = true
		}
	}
	best := h.from()
	for _, n := range numbers {
		best[n] = !below[n]
	}
	return best.numbers()
}

func (h *history) plainBases(numbers []int) []int {
	if len(numbers) == 0 {
		return nil
	}
	in := h.from(numbers[0])
	for _, n := range numbers {
		for k, from := range h.from(n) {
			in[k] = in[k] && from
		}
	}
	return h.plainBest(in.numbers())
}

// generations are those of all commits, covered or not.
func (h *history) generations() []int {
	var all []int
	for _, p := range h.puts {
		greatest := 0
		for _, parent := range p.parents {
			greatest = max(greatest, all[parent])
		}
		all = append(all, min(greatest+1, 250))
	}
	return all
}

func (h *history) number(id api.ID) int {
	return slices.IndexFunc(h.puts, func(p put) bool { return p.id == id })
}

// wantAncestor holds Ancestor, and what it reads, against the words of P15.2.
func wantAncestor(t testing.TB, what string, g *graph.Graph, h *history, a, b int) {
	t.Helper()
	g.Reset()
	want := a == b || h.ancestor(a, b)
	if is, e := Ancestor(g, h.puts[a].id, h.puts[b].id); is != want || e != api.OK {
		t.Errorf("%s: Ancestor of %d, %d: %v, %v", what, a, b, is, e)
	}
	wantReads(t, what, g, h, a, b)
	g.Reset()
}

func wantReads(t testing.TB, what string, g *graph.Graph, h *history, a, b int) {
	t.Helper()
	pruned := g.Covered() && len(h.puts) <= 250
	generations, from := h.generations(), h.from(b)
	seen := h.from()
	for _, id := range g.Read() {
		n := h.number(id)
		switch {
		case seen[n]:
			t.Errorf("%s: Ancestor of %d, %d reads %d twice", what, a, b, n)
		case !from[n]:
			t.Errorf("%s: Ancestor of %d, %d reads %d, which isn't from %d", what, a, b, n, b)
		case pruned && generations[n] < generations[a]:
			t.Errorf("%s: Ancestor of %d, %d reads %d, of generation %d below %d", what, a, b, n, generations[n], generations[a])
		}
		seen[n] = true
	}
	if a == b && g.Visits() != 0 || g.Trees() != 0 {
		t.Errorf("%s: Ancestor of %d, %d reads %x and %x", what, a, b, g.Read(), g.Opened())
	}
}

// wantList holds the answer of a call against the commits of these numbers.
func wantList(t testing.TB, what string, h *history, want []int, got []api.ID, e api.Errno) {
	t.Helper()
	if e != api.OK || !slices.Equal(got, h.sorted(want...)) {
		t.Errorf("%s: %x, %v, want %x", what, got, e, h.sorted(want...))
	}
}

// wantLists asks for all lists of some numbers.
func wantLists(t testing.TB, what string, g *graph.Graph, h *history, numbers, others []int) {
	t.Helper()
	ids := h.of(numbers...)
	got, e := From(g, ids...)
	wantList(t, fmt.Sprint(what, ": From ", numbers), h, h.from(numbers...).numbers(), got, e)
	got, e = Range(g, ids, h.of(others...))
	wantList(t, fmt.Sprint(what, ": Range ", numbers, others), h, h.plainRange(numbers, others), got, e)
	got, e = Heads(g, ids...)
	wantList(t, fmt.Sprint(what, ": Heads ", numbers), h, h.plainBest(numbers), got, e)
	got, e = Bases(g, ids...)
	wantList(t, fmt.Sprint(what, ": Bases ", numbers), h, h.plainBases(numbers), got, e)
}

func wantBetween(t testing.TB, what string, g *graph.Graph, h *history, a, b int) {
	t.Helper()
	got, e := Between(g, h.puts[a].id, h.puts[b].id)
	wantList(t, fmt.Sprint(what, ": Between ", a, " ", b), h, h.plainBetween(a, b), got, e)
}

// wantAll asks for everything of each commit, of each two, of none and of all.
func wantAll(t testing.TB, what string, g *graph.Graph, h *history) {
	t.Helper()
	for a := range h.puts {
		for b := range h.puts {
			wantAncestor(t, what, g, h, a, b)
			wantBetween(t, what, g, h, a, b)
			wantLists(t, what, g, h, []int{a, b}, []int{b})
			wantLists(t, what, g, h, []int{a}, []int{b})
		}
		wantLists(t, what, g, h, []int{a}, nil)
		wantLists(t, what, g, h, nil, []int{a})
		wantLists(t, what, g, h, h.all(), []int{a})
	}
	wantLists(t, what, g, h, nil, nil)
	wantLists(t, what, g, h, h.all(), h.all())
	if g.Trees() != 0 {
		t.Errorf("%s: files were read: %x", what, g.Opened())
	}
}

// shapes has a root, branches and merges, commits with one best common ancestor and with several, a second root, merges of both, and a commit with MaxParents parents.
func shapes(t testing.TB) *history {
	return newHistory(t,
		nil,                               // 0: a root
		[]int{0},                          // 1
		[]int{0},                          // 2
		[]int{1, 2},                       // 3: criss
		[]int{2, 1},                       // 4: cross
		[]int{3},                          // 5
		[]int{4},                          // 6
		nil,                               // 7: a second root
		[]int{7},                          // 8
		[]int{8, 5},                       // 9: of both
		[]int{0},                          // 10: above the root alone
		[]int{6, 10, 2},                   // 11: a parent that is an ancestor of another
		nil,                               // 12: a root alone
		[]int{0, 1, 2, 3, 4, 7, 8},        // 13
		[]int{9, 13, 11, 6, 5, 0, 12, 10}, // 14: MaxParents
	)
}

// views are graphs of one history: without a chain, and of chains that cover none, some and all commits.
func views(h *history) map[string]*graph.Graph {
	all := map[string]*graph.Graph{"nil": graph.New(h.s, nil), "none": graph.New(h.s, h.c)}
	for _, tips := range [][]int{{0}, {1}, {3}, {9}, {7}, {11, 8}, {13}} {
		all[fmt.Sprint("from ", tips)] = h.covers(tips...)
	}
	// Covered by several layers, of which each stands on the other.
	h.must(h.c.Drop(1))
	h.write(2)
	h.write(6)
	h.write(5, 7)
	all["three layers"] = graph.New(h.s, h.c)
	h.write()
	all["all, four layers"] = graph.New(h.s, h.c)
	h.must(h.c.Merge(4))
	all["all, one layer"] = graph.New(h.s, h.c)
	return all
}

// The chapter's examples.
func TestExamples(t *testing.T) {
	h := newHistory(t, nil, []int{0}, []int{0}, []int{1, 2})
	r, a, b, m := h.puts[0].id, h.puts[1].id, h.puts[2].id, h.puts[3].id
	g := graph.New(h.s, nil)
	if is, e := Ancestor(g, r, m); !is || e != api.OK {
		t.Error(is, e)
	}
	got, e := From(g, a)
	wantList(t, "From", h, []int{0, 1}, got, e)
	got, e = Range(g, []api.ID{m}, []api.ID{a})
	wantList(t, "Range", h, []int{2, 3}, got, e)
	got, e = Between(g, r, a)
	wantList(t, "Between", h, []int{0, 1}, got, e)
	got, e = Bases(g, a, b)
	wantList(t, "Bases", h, []int{0}, got, e)
	got, e = Heads(g, r, a, b)
	wantList(t, "Heads", h, []int{1, 2}, got, e)
}

// P15.1 to P15.4: everything of all shapes, covered or not.
func TestShapes(t *testing.T) {
	h := shapes(t)
	for what, g := range views(h) {
		wantAll(t, what, g, h)
	}
}

// The answers that can be read off the shapes, told by their numbers and not by the plain evaluator.
func TestShapesByHand(t *testing.T) {
	h := shapes(t)
	for what, g := range views(h) {
		for _, c := range []struct {
			numbers, nots              []int
			from, without, heads, best []int
		}{
			{numbers: []int{0}, from: []int{0}, without: []int{0}, heads: []int{0}, best: []int{0}},
			{numbers: []int{3}, nots: []int{0}, from: []int{0, 1, 2, 3}, without: []int{1, 2, 3}, heads: []int{3}, best: []int{3}},
			{numbers: []int{5, 6}, nots: []int{4}, from: []int{0, 1, 2, 3, 4, 5, 6}, without: []int{3, 5, 6}, heads: []int{5, 6}, best: []int{1, 2}},
			{numbers: []int{6, 5, 1}, nots: []int{2, 7}, from: []int{0, 1, 2, 3, 4, 5, 6}, without: []int{1, 3, 4, 5, 6}, heads: []int{5, 6}, best: []int{1}},
			{numbers: []int{1, 2}, nots: []int{12, 10}, from: []int{0, 1, 2}, without: []int{1, 2}, heads: []int{1, 2}, best: []int{0}},
			{numbers: []int{1, 8}, nots: []int{8}, from: []int{0, 1, 7, 8}, without: []int{0, 1}, heads: []int{1, 8}},
			{numbers: []int{0, 7, 12}, nots: []int{9}, from: []int{0, 7, 12}, without: []int{12}, heads: []int{0, 7, 12}},
			{numbers: []int{5, 3, 1, 0, 5, 0}, nots: []int{5}, from: []int{0, 1, 2, 3, 5}, heads: []int{5}, best: []int{0}},
			{numbers: []int{9, 11}, nots: []int{11, 9}, from: []int{0, 1, 2, 3, 4, 5, 6, 7, 8, 9, 10, 11}, heads: []int{9, 11}, best: []int{1, 2}},
			{numbers: []int{11, 11}, nots: []int{3}, from: []int{0, 1, 2, 4, 6, 10, 11}, without: []int{4, 6, 10, 11}, heads: []int{11}, best: []int{11}},
			{nots: []int{3}},
		} {
			ids := h.of(c.numbers...)
			got, e := From(g, ids...)
			wantList(t, fmt.Sprint(what, " From ", c.numbers), h, c.from, got, e)
			got, e = Range(g, ids, h.of(c.nots...))
			wantList(t, fmt.Sprint(what, " Range ", c.numbers, c.nots), h, c.without, got, e)
			got, e = Heads(g, ids...)
			wantList(t, fmt.Sprint(what, " Heads ", c.numbers), h, c.heads, got, e)
			got, e = Bases(g, ids...)
			wantList(t, fmt.Sprint(what, " Bases ", c.numbers), h, c.best, got, e)
		}
		for _, c := range []struct {
			a, b int
			want []int
		}{
			{0, 0, []int{0}}, {0, 5, []int{0, 1, 2, 3, 5}}, {1, 5, []int{1, 3, 5}}, {3, 5, []int{3, 5}}, {5, 5, []int{5}},
			{5, 3, nil}, {4, 5, nil}, {7, 12, nil}, {2, 11, []int{2, 4, 6, 11}}, {7, 9, []int{7, 8, 9}}, {12, 14, []int{12, 14}},
		} {
			got, e := Between(g, h.puts[c.a].id, h.puts[c.b].id)
			wantList(t, fmt.Sprint(what, " Between ", c.a, " ", c.b), h, c.want, got, e)
			if is, e := Ancestor(g, h.puts[c.a].id, h.puts[c.b].id); is != (c.want != nil) || e != api.OK {
				t.Errorf("%s: Ancestor of %d, %d: %v, %v", what, c.a, c.b, is, e)
			}
		}
	}
}

// P15.1: an ID that is no commit's, as each of those that are handed in.
func TestMissing(t *testing.T) {
	h := shapes(t)
	for what, g := range views(h) {
		g.Reset()
		good := h.of(3, 9, 0)
		for _, id := range h.strangers() {
			for _, c := range [][2]api.ID{{id, good[0]}, {good[0], id}, {id, id}, {id, 0}, {0, id}} {
				if is, e := Ancestor(g, c[0], c[1]); is || e != api.ErrMissing {
					t.Errorf("%s: Ancestor of %x: %v, %v", what, c, is, e)
				}
				if l, e := Between(g, c[0], c[1]); len(l) != 0 || e != api.ErrMissing {
					t.Errorf("%s: Between of %x: %x, %v", what, c, l, e)
				}
			}
			for _, ids := range [][]api.ID{{id}, {id, id}, {id, good[0]}, {good[0], id}, {good[0], id, good[1]}, append(slices.Clone(good), id)} {
				wantMissing(t, what, g, ids, good)
			}
		}
		if g.Visits() != 0 || g.Trees() != 0 {
			t.Errorf("%s: read in spite of ErrMissing: %x, %x", what, g.Read(), g.Opened())
		}
	}
}

// wantMissing hands in ids of which one is no commit's.
func wantMissing(t testing.TB, what string, g *graph.Graph, ids, good []api.ID) {
	t.Helper()
	for name, call := range map[string]func(*graph.Graph, ...api.ID) ([]api.ID, api.Errno){"From": From, "Heads": Heads, "Bases": Bases} {
		if l, e := call(g, ids...); len(l) != 0 || e != api.ErrMissing {
			t.Errorf("%s: %s of %x: %x, %v", what, name, ids, l, e)
		}
	}
	for _, c := range [][2][]api.ID{{ids, nil}, {nil, ids}, {ids, good}, {good, ids}, {ids, ids}} {
		if l, e := Range(g, c[0], c[1]); len(l) != 0 || e != api.ErrMissing {
			t.Errorf("%s: Range of %x: %x, %v", what, c, l, e)
		}
	}
}

// A store without commits has none that could be handed in.
func TestNoCommits(t *testing.T) {
	h := newHistory(t)
	g := graph.New(h.s, h.c)
	wantLists(t, "none", g, h, nil, nil)
	for _, id := range h.strangers() {
		wantMissing(t, "none", g, []api.ID{id}, nil)
		if is, e := Ancestor(g, id, id); is || e != api.ErrMissing {
			t.Error(is, e)
		}
	}
}

// P15.1, P15.4: one commit several times is there once.
func TestTheSameSeveralTimes(t *testing.T) {
	h := shapes(t)
	for what, g := range views(h) {
		for n := range h.puts {
			for _, times := range []int{2, 3, 50} {
				same := slices.Repeat([]int{n}, times)
				wantLists(t, what, g, h, same, nil)
				wantLists(t, what, g, h, same, same)
				wantLists(t, what, g, h, append(same, 5), append(same, 7))
				wantLists(t, what, g, h, append(append([]int{6}, same...), 5, n), []int{0, 0})
			}
		}
	}
}

// P15.2: what Ancestor reads of a line that is covered, of one that isn't, and of one of which the upper part isn't.
func TestReadsOfALine(t *testing.T) {
	var line [][]int
	for n := range 30 {
		line = append(line, []int{n - 1})
	}
	line[0] = nil
	h := newHistory(t, append(line, []int{0})...)
	g := h.covers()
	for _, c := range []struct{ a, b, reads int }{{25, 29, 5}, {0, 29, 30}, {29, 29, 0}, {29, 0, 0}, {29, 30, 0}, {30, 29, 29}, {1, 30, 1}} {
		wantAncestor(t, "line", g, h, c.a, c.b)
		Ancestor(g, h.puts[c.a].id, h.puts[c.b].id)
		if g.Visits() > c.reads {
			t.Errorf("Ancestor of %d, %d: %d reads, more than %d", c.a, c.b, g.Visits(), c.reads)
		}
	}
	// What is read adds up from call to call.
	g.Reset()
	Ancestor(g, h.puts[0].id, h.puts[1].id)
	was := g.Read()
	Ancestor(g, h.puts[0].id, h.puts[1].id)
	if g.Visits() != 2*len(was) || len(was) == 0 {
		t.Errorf("%x, then %x", was, g.Read())
	}
	for what, g := range map[string]*graph.Graph{"nil": graph.New(h.s, nil), "lower half": h.covers(14), "side": h.covers(30)} {
		for a := range h.puts {
			for b := range h.puts {
				wantAncestor(t, what, g, h, a, b)
			}
		}
	}
}

// P15.2: many ways lead to each commit, and each is gone once.
func TestReadsOfALadder(t *testing.T) {
	h := newHistory(t, nil, nil)
	for n := 2; n < 120; n += 2 {
		h.commit(n-2, n-1)
		h.commit(n-1, n-2)
	}
	lone := h.commit()
	for what, g := range map[string]*graph.Graph{"nil": graph.New(h.s, nil), "half": h.covers(60, 61), "all": h.covers()} {
		for _, c := range [][2]int{{0, 119}, {1, 118}, {lone, 119}, {119, lone}, {60, 119}, {61, 60}, {119, 60}, {118, 119}} {
			wantAncestor(t, what, g, h, c[0], c[1])
			wantBetween(t, what, g, h, c[0], c[1])
		}
		wantLists(t, what, g, h, []int{118, 119}, []int{60})
		wantLists(t, what, g, h, []int{118, 119, lone}, []int{60, 61})
		wantLists(t, what, g, h, []int{119, 60, 61, 40}, []int{lone})
	}
}

// longLine is so many commits one above the other, a branch of five more from the middle, a merge, and a root alone: some more than MaxIndexed, or not.
func longLine(t testing.TB, n int) *history {
	h := newHistory(t, nil)
	for k := 1; k < n; k++ {
		h.commit(k - 1)
	}
	side := h.commit(n / 2)
	for range 4 {
		side = h.commit(side)
	}
	h.commit(n-1, side)
	h.commit()
	return h
}

// P15.2, P15.3: generations are 250 at several commits, and what they say is no more than it is.
func TestLongLines(t *testing.T) {
	for _, n := range []int{240, 242, 243, 244, 250, 251, 300} {
		h := longLine(t, n)
		all := len(h.puts)
		picked := []int{0, 1, n/2 - 1, n / 2, n/2 + 1, n - 10, n - 2, n - 1, n, n + 3, n + 4, n + 5, n + 6}
		for _, k := range []int{247, 248, 249, 250, 251, 252} {
			if k < all {
				picked = append(picked, k)
			}
		}
		for what, g := range map[string]*graph.Graph{"nil": graph.New(h.s, nil), "some": h.covers(n - 5), "all": h.covers()} {
			what = fmt.Sprint(n, " ", what)
			for _, a := range picked {
				for _, b := range picked {
					wantAncestor(t, what, g, h, a, b)
					wantBetween(t, what, g, h, a, b)
				}
				wantLists(t, what, g, h, []int{a, n + 4, n - 1}, []int{n - 3})
			}
			wantLists(t, what, g, h, picked, []int{n / 2})
		}
	}
}

// P15.2: at just MaxIndexed commits, all covered, the generations still say where to stop; one commit that isn't covered, and only the others are promised.
func TestAtMaxIndexed(t *testing.T) {
	h := longLine(t, api.MaxIndexed-7)
	if len(h.puts) != api.MaxIndexed {
		t.Fatal(len(h.puts))
	}
	g := h.covers()
	top := api.MaxIndexed - 8
	wantAncestor(t, "all", g, h, top, top-1)
	Ancestor(g, h.puts[top].id, h.puts[top-1].id)
	if g.Visits() != 0 {
		t.Errorf("%x", g.Read())
	}
	h.commit(top)
	for a := top - 3; a < len(h.puts); a++ {
		for b := top - 3; b < len(h.puts); b++ {
			wantAncestor(t, "one more", g, h, a, b)
			wantAncestor(t, "one more, covered", graph.New(h.s, h.c), h, a, b)
			wantBetween(t, "one more", g, h, a, b)
		}
	}
}

// Commits that are put behind the graph's making are there, and not covered.
func TestPutBehindTheGraph(t *testing.T) {
	h := shapes(t)
	all := views(h)
	for _, parents := range [][]int{{14}, {1}, {15, 16}, nil, {18, 17}, {12, 7}} {
		h.commit(parents...)
	}
	for what, g := range all {
		wantAll(t, what, g, h)
	}
	wantAll(t, "covered later", h.covers(), h)
}

// subsets are all sets of numbers below n.
func subsets(n int) [][]int {
	var all [][]int
	for bits := range 1 << n {
		var one []int
		for k := range n {
			if bits>>k&1 == 1 {
				one = append(one, k)
			}
		}
		all = append(all, one)
	}
	return all
}

// P15.3, P15.4: all sets of commits of small histories, each against each.
func TestAllSubsets(t *testing.T) {
	for _, parents := range [][][]int{
		{nil, {0}, {0}, {1, 2}, {2, 1}, {3, 4}},
		{nil, {0}, {1}, {2}, {3}, {4}},
		{nil, nil, {0, 1}, {1, 0}, {2, 3}, {0}},
		{nil, nil, nil, nil, nil, nil},
		{nil, {0}, {0}, {0}, {1, 2, 3}, {1, 3}},
		{nil, {0}, {1, 0}, {2, 0, 1}, {0}, {4, 3}},
	} {
		h := newHistory(t, parents...)
		for what, g := range map[string]*graph.Graph{"nil": graph.New(h.s, nil), "some": h.covers(2), "all": h.covers()} {
			for _, some := range subsets(len(parents)) {
				for _, others := range subsets(len(parents)) {
					got, e := Range(g, h.of(some...), h.of(others...))
					wantList(t, fmt.Sprint(what, " Range ", parents, some, others), h, h.plainRange(some, others), got, e)
				}
				wantLists(t, fmt.Sprint(what, parents), g, h, some, nil)
				turned := slices.Clone(some)
				slices.Reverse(turned)
				wantLists(t, fmt.Sprint(what, parents), g, h, append(turned, some...), some)
			}
		}
	}
}

// P15.4: commits with many best common ancestors, and with none.
func TestManyBases(t *testing.T) {
	h := newHistory(t, nil, nil, nil, nil, nil, nil, nil, nil)
	roots := h.all()
	a := h.commit(roots...)
	slices.Reverse(roots)
	b := h.commit(roots...)
	c := h.commit(roots[:3]...)
	lone := h.commit()
	for what, g := range map[string]*graph.Graph{"nil": graph.New(h.s, nil), "all": h.covers()} {
		for _, x := range []struct{ ids, want []int }{
			{[]int{a, b}, []int{0, 1, 2, 3, 4, 5, 6, 7}},
			{[]int{a, b, c}, []int{5, 6, 7}},
			{[]int{c, a, c, b, 6}, []int{6}},
			{[]int{c, 0}, nil}, {[]int{a, lone}, nil}, {[]int{a, b, lone, lone}, nil}, {[]int{0, 1}, nil}, {[]int{lone}, []int{lone}},
		} {
			got, e := Bases(g, h.of(x.ids...)...)
			wantList(t, fmt.Sprint(what, " Bases ", x.ids), h, x.want, got, e)
			wantLists(t, what, g, h, x.ids, x.want)
		}
	}
}

// whole is a list with its spare room.
func whole(list []api.ID) []api.ID { return list[:cap(list)] }

// roomy lays a list into a longer one, whose spare room has a mark in each place.
func roomy(list []api.ID) []api.ID {
	all := slices.Repeat([]api.ID{77}, len(list)+64)
	copy(all, list)
	return all[:len(list)]
}

// fill writes into all of a list, and into its spare room.
func fill(list []api.ID) {
	for i := range whole(list) {
		whole(list)[i] = 66
	}
}

// calls are those that answer lists, of tips and others.
func calls() map[string]func(g *graph.Graph, ids, others []api.ID) ([]api.ID, api.Errno) {
	return map[string]func(g *graph.Graph, ids, others []api.ID) ([]api.ID, api.Errno){
		"From":  func(g *graph.Graph, ids, _ []api.ID) ([]api.ID, api.Errno) { return From(g, ids...) },
		"Range": Range,
		"Between": func(g *graph.Graph, ids, others []api.ID) ([]api.ID, api.Errno) {
			if len(ids) == 0 || len(others) == 0 {
				return nil, api.OK
			}
			return Between(g, others[0], ids[0])
		},
		"Heads": func(g *graph.Graph, ids, _ []api.ID) ([]api.ID, api.Errno) { return Heads(g, ids...) },
		"Bases": func(g *graph.Graph, ids, _ []api.ID) ([]api.ID, api.Errno) { return Bases(g, ids...) },
	}
}

// Rule 3: answers are new memory; what is handed in is not changed, its spare room neither, and not kept.
func TestMemory(t *testing.T) {
	h := shapes(t)
	for what, g := range views(h) {
		for name, call := range calls() {
			for _, numbers := range [][]int{{}, {0}, {5}, {6, 5}, {14, 3, 3, 0}, {13, 9, 11, 10}, {0, 7, 12}} {
				ids, others := roomy(h.of(numbers...)), roomy(h.of(0, 10))
				wasIDs, wasOthers := slices.Clone(whole(ids)), slices.Clone(whole(others))
				first, e := call(g, ids, others)
				if e != api.OK {
					t.Fatal(what, name, numbers, e)
				}
				keep := slices.Clone(first)
				second, _ := call(g, ids, others)
				fill(first)
				if !slices.Equal(whole(ids), wasIDs) || !slices.Equal(whole(others), wasOthers) {
					t.Errorf("%s: %s of %v changes or answers what is handed in", what, name, numbers)
				}
				fill(ids)
				fill(others)
				if !slices.Equal(second, keep) {
					t.Errorf("%s: %s of %v: answers share memory", what, name, numbers)
				}
				if again, _ := call(g, h.of(numbers...), h.of(0, 10)); !slices.Equal(again, keep) {
					t.Errorf("%s: %s of %v: %x, then %x", what, name, numbers, keep, again)
				}
			}
		}
	}
}

// Rule 3: a list that is both the tips and the nots, or overlaps with them.
func TestOneListTwice(t *testing.T) {
	h := shapes(t)
	g := graph.New(h.s, nil)
	ids := h.of(5, 6, 0)
	got, e := Range(g, ids, ids)
	wantList(t, "the same", h, nil, got, e)
	got, e = Range(g, ids[:1], ids[1:])
	wantList(t, "the beginning and the rest", h, []int{3, 5}, got, e)
	got, e = Range(g, ids[:2], ids[2:])
	wantList(t, "the beginning and the end", h, []int{1, 2, 3, 4, 5, 6}, got, e)
	if !slices.Equal(ids, h.of(5, 6, 0)) {
		t.Errorf("%x", ids)
	}
}

// Rule 2: no IDs may be nil or empty.
func TestEmptyOrNil(t *testing.T) {
	h := shapes(t)
	for what, g := range views(h) {
		g.Reset()
		for _, none := range [][]api.ID{nil, {}, h.of(0, 1)[:0]} {
			for name, call := range calls() {
				if l, e := call(g, none, none); len(l) != 0 || e != api.OK {
					t.Errorf("%s: %s of none: %x, %v", what, name, l, e)
				}
			}
			if l, e := Range(g, none, h.of(3)); len(l) != 0 || e != api.OK {
				t.Errorf("%s: no tips: %x, %v", what, l, e)
			}
			got, e := Range(g, h.of(3), none)
			wantList(t, "no nots", h, []int{0, 1, 2, 3}, got, e)
		}
	}
}

// The store, the chain and the disk are only asked.
func TestNothingIsWritten(t *testing.T) {
	h := shapes(t)
	h.write(3)
	tell := func() string {
		var b strings.Builder
		for _, name := range h.d.Names() {
			file, _ := h.d.Read(name)
			fmt.Fprintln(&b, name, file)
		}
		fmt.Fprintln(&b, h.d.Writes(), h.s.Commits(), h.s.Refs(), h.s.Tags(), h.c.Names(), h.c.Sizes(), h.c.Rows())
		return b.String()
	}
	was := tell()
	wantAll(t, "some", graph.New(h.s, h.c), h)
	if tell() != was {
		t.Error("something has changed")
	}
}

// P0.1: layers that were spoilt, and a chain that a cut left, change no answer.
func TestSpoiltLayersAndCuts(t *testing.T) {
	h := shapes(t)
	for _, n := range []int{0, 3, 6} {
		h.write(n)
	}
	h.write()
	first := h.d
	for _, name := range append(h.c.Names(), "chain") {
		for _, at := range []int{5, 30} {
			h.d = first.Clone()
			h.must(h.d.Spoil(name, at, 4))
			h.open()
			wantAll(t, "spoilt "+name, graph.New(h.s, h.c), h)
		}
	}
	for after := range 7 {
		h.d = first.Clone()
		h.open()
		g := graph.New(h.s, h.c)
		h.must(h.d.Cut(after, 10))
		// Seven raw writes: the layer's file, the two of the swap, and four that go.
		if e := h.c.Merge(4); e != api.ErrDead {
			t.Fatal(after, e)
		}
		wantAll(t, fmt.Sprint("dead behind ", after), g, h)
		h.d.Restart()
		h.open()
		wantAll(t, fmt.Sprint("restarted behind ", after), graph.New(h.s, h.c), h)
	}
}

// Rule 4: a graph that was made ahead of merges and drops answers as one made behind them.
func TestGraphsOfAllAges(t *testing.T) {
	h := shapes(t)
	var graphs []*graph.Graph
	made := func() { graphs = append(graphs, graph.New(h.s, h.c)) }
	made()
	h.write(2)
	made()
	h.write(9)
	made()
	h.must(h.c.Merge(2))
	made()
	h.must(h.c.Drop(1))
	made()
	h.write()
	h.commit(14, 9)
	made()
	for at, g := range graphs {
		wantAll(t, fmt.Sprint("age ", at), g, h)
	}
}

func pick[T any](r *rand.Rand, list []T) T { return list[r.Intn(len(list))] }

func some(r *rand.Rand, n int) []int {
	var numbers []int
	for range pick(r, []int{0, 1, 1, 2, 2, 2, 3, 5}) {
		numbers = append(numbers, r.Intn(n))
	}
	return numbers
}

// grow puts a commit above some that are there, mostly late ones.
func (h *history) grow(r *rand.Rand) {
	n := len(h.puts)
	parents := r.Perm(n)
	if late := min(n, 6); r.Intn(3) > 0 {
		parents = nil
		for _, k := range r.Perm(late) {
			parents = append(parents, n-1-k)
		}
	}
	h.commit(parents[:min(len(parents), pick(r, []int{0, 1, 1, 1, 1, 2, 2, 2, 3, 8}))]...)
}

// P15.1 to P15.4: random histories, chains and calls, against the words of the chapter.
func TestRandomCalls(t *testing.T) {
	r := rand.New(rand.NewSource(15))
	count := map[string]int{}
	for range 100 {
		h := newHistory(t, nil)
		for range 5 + r.Intn(40) {
			h.grow(r)
		}
		for range 3 {
			if r.Intn(3) > 0 {
				h.must(h.c.Write(h.of(some(r, len(h.puts))...)...))
			}
		}
		g := graph.New(h.s, h.c)
		for range pick(r, []int{0, 0, 1, 2}) {
			h.grow(r)
		}
		for range 100 {
			a, b := r.Intn(len(h.puts)), r.Intn(len(h.puts))
			wantAncestor(t, "any", g, h, a, b)
			wantBetween(t, "any", g, h, a, b)
			numbers, others := some(r, len(h.puts)), some(r, len(h.puts))
			wantLists(t, "any", g, h, numbers, others)
			count[fmt.Sprint("ancestor ", h.ancestor(a, b))]++
			count[fmt.Sprint("covered ", g.Covered())]++
			count[fmt.Sprint("covered ", g.Covered(), ", both ", g.Covered(h.of(a, b)...))]++
			count[fmt.Sprint("range ", len(h.plainRange(numbers, others)) > 0)]++
			count[fmt.Sprint("bases ", min(2, len(h.plainBases(numbers))))]++
			count[fmt.Sprint("heads ", min(2, len(h.plainBest(numbers))))]++
		}
		if t.Failed() {
			t.FailNow()
		}
	}
	for _, what := range []string{"ancestor true", "ancestor false", "covered true", "covered false", "covered false, both true", "covered false, both false",
		"range true", "range false", "bases 0", "bases 1", "bases 2", "heads 0", "heads 1", "heads 2"} {
		if count[what] < 100 {
			t.Error("met too seldom to tell much:", what, count)
		}
	}
}

// Rule 5: calls end soon on as many commits as a disk holds, and on long lists.
func TestMany(t *testing.T) {
	h := newHistory(t, nil)
	n := 3000
	for k := 1; k < n; k++ {
		h.commit(k - 1)
	}
	g := graph.New(h.s, nil)
	wantAncestor(t, "many", g, h, 0, n-1)
	wantAncestor(t, "many", g, h, n-1, n/2)
	if l, e := Between(g, h.puts[0].id, h.puts[n-1].id); len(l) != n || e != api.OK {
		t.Error(len(l), e)
	}
	long := slices.Repeat([]int{n - 1, 5, n / 2}, 20000)
	ids := h.of(long...)
	got, e := From(g, ids...)
	wantList(t, "From", h, h.all(), got, e)
	got, e = Heads(g, ids...)
	wantList(t, "Heads", h, []int{n - 1}, got, e)
	got, e = Bases(g, ids...)
	wantList(t, "Bases", h, []int{5}, got, e)
	got, e = Range(g, ids, h.of(slices.Repeat([]int{n - 2, 7}, 30000)...))
	wantList(t, "Range", h, []int{n - 1}, got, e)
}

// The ways that the chapter asks for.
func TestVariadic(t *testing.T) {
	for name, f := range map[string]any{"From": From, "Heads": Heads, "Bases": Bases} {
		if !reflect.TypeOf(f).IsVariadic() {
			t.Error(name, "isn't variadic")
		}
	}
}
