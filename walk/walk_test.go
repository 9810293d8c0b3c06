package walk

import (
	"fmt"
	"math"
	"math/rand"
	"reflect"
	"slices"
	"strings"
	"testing"

	"forebear/api"
	"forebear/chain"
	"forebear/disk"
	"forebear/graph"
	"forebear/queue"
	"forebear/reach"
	"forebear/store"
)

// node is a commit to be put: its Date, and the numbers of its parents.
type node struct {
	date    int64
	parents []int
}

// put is a commit as the tests put it: what is answered is held against it, not against what the store tells.
type put struct {
	node
	id api.ID
}

// history is a disk with a store and a chain, and its commits in the order in which they were put; a commit's number is its place there.
type history struct {
	t          testing.TB
	d          *disk.Disk
	s          *store.Store
	c          *chain.Chain
	tree, blob api.ID
	puts       []put
}

func newHistory(t testing.TB, nodes ...node) *history {
	t.Helper()
	h := &history{t: t, d: disk.New()}
	h.open()
	var e api.Errno
	if h.blob, e = h.s.Blob([]byte("1")); e != api.OK {
		t.Fatal(e)
	}
	if h.tree, e = h.s.Tree(api.Entry{Path: "a", Blob: h.blob}); e != api.OK {
		t.Fatal(e)
	}
	for _, n := range nodes {
		h.commit(n.date, n.parents...)
	}
	return h
}

// open opens store and chain anew.
func (h *history) open() {
	h.t.Helper()
	var e api.Errno
	if h.s, e = store.Open(h.d); e != api.OK {
		h.t.Fatal(e)
	}
	if h.c, e = chain.Open(h.d, h.s); e != api.OK {
		h.t.Fatal(e)
	}
}

// commit puts one above those of these numbers; its note makes it unlike the others.
func (h *history) commit(date int64, parents ...int) int {
	h.t.Helper()
	id, e := h.s.Commit(api.Commit{Tree: h.tree, Parents: h.of(parents...), Date: date, Note: fmt.Sprint(len(h.puts))})
	if e != api.OK {
		h.t.Fatal(e)
	}
	h.puts = append(h.puts, put{node: node{date, slices.Clone(parents)}, id: id})
	return len(h.puts) - 1
}

// of is the IDs of the commits of these numbers.
func (h *history) of(numbers ...int) []api.ID {
	var ids []api.ID
	for _, n := range numbers {
		ids = append(ids, h.puts[n].id)
	}
	return ids
}

func (h *history) all() []int {
	var all []int
	for n := range h.puts {
		all = append(all, n)
	}
	return all
}

func (h *history) must(e api.Errno) {
	h.t.Helper()
	if e != api.OK {
		h.t.Fatal(e)
	}
}

// write lays a layer of the commits of these numbers and their ancestors; without numbers of all.
func (h *history) write(numbers ...int) {
	h.t.Helper()
	h.must(h.c.Write(h.of(numbers...)...))
}

// covers makes a graph whose chain covers the commits of these numbers and their ancestors; without numbers all.
func (h *history) covers(numbers ...int) *graph.Graph {
	h.t.Helper()
	for range h.c.Names() {
		h.must(h.c.Drop(1))
	}
	h.write(numbers...)
	return graph.New(h.s, h.c)
}

// strangers are IDs of no commit: of the tree and the blob, of nothing, and such as are near to those of commits.
func (h *history) strangers() []api.ID {
	ids := []api.ID{0, 1, 5, 1 << 63, math.MaxUint64, h.tree, h.blob}
	for _, p := range h.puts[:min(3, len(h.puts))] {
		ids = append(ids, p.id+1, p.id-1, ^p.id)
	}
	return slices.DeleteFunc(ids, func(id api.ID) bool {
		return slices.ContainsFunc(h.puts, func(p put) bool { return p.id == id })
	})
}

// from: themselves and their ancestors, by number. None is put ahead of its parents.
func (h *history) from(tips ...int) []bool {
	in := make([]bool, len(h.puts))
	for _, n := range tips {
		in[n] = true
	}
	for n := len(h.puts) - 1; n >= 0; n-- {
		if in[n] {
			for _, p := range h.puts[n].parents {
				in[p] = true
			}
		}
	}
	return in
}

// commitsOf: which commits are those of a walk.
func (h *history) commitsOf(tips, nots []int) []bool {
	in, out := h.from(tips...), h.from(nots...)
	for n := range in {
		in[n] = in[n] && !out[n]
	}
	return in
}

// ahead tells which of those that wait is ahead of the others.
func (h *history) ahead(waiting []int) int {
	return slices.MinFunc(waiting, func(a, b int) int {
		x, y := h.puts[a], h.puts[b]
		if x.date > y.date || x.date == y.date && x.id < y.id {
			return -1
		}
		return 1
	})
}

// plain tells the commits of a walk by the words of the chapter: who waits is asked anew each time.
func (h *history) plain(o Order, tips, nots []int) []int {
	in := h.commitsOf(tips, nots)
	var told []int
	for {
		waiting := h.waiting(o, in, tips, told)
		if len(waiting) == 0 {
			return told
		}
		told = append(told, h.ahead(waiting))
	}
}

// waiting: who waits, of the commits of a walk, when these were told.
func (h *history) waiting(o Order, in []bool, tips, told []int) []int {
	// By what was told, or is a tip, it is come to; by a kid that wasn't told it is held.
	come, held := make([]bool, len(in)), make([]bool, len(in))
	done := make([]bool, len(in))
	for _, n := range told {
		done[n] = true
	}
	for _, n := range tips {
		come[n] = true
	}
	for n, p := range h.puts {
		for _, parent := range p.parents {
			come[parent] = come[parent] || done[n]
			held[parent] = held[parent] || in[n] && !done[n]
		}
	}
	var list []int
	for n := range in {
		if in[n] && !done[n] && (o == ByDate && come[n] || o == ByTopo && !held[n]) {
			list = append(list, n)
		}
	}
	return list
}

func (h *history) number(id api.ID) int {
	return slices.IndexFunc(h.puts, func(p put) bool { return p.id == id })
}

func (h *history) numbers(ids []api.ID) []int {
	var list []int
	for _, id := range ids {
		list = append(list, h.number(id))
	}
	return list
}

// begin makes a walk of commits.
func begin(t testing.TB, what string, g *graph.Graph, h *history, o Order, tips, nots []int) *Walk {
	t.Helper()
	w, e := New(g, o, h.of(tips...), h.of(nots...))
	if e != api.OK || w == nil {
		t.Fatalf("%s: New of %v, %v, %v: %v", what, o, tips, nots, e)
	}
	return w
}

// wantNone asks a walk of which all was told.
func wantNone(t testing.TB, what string, w *Walk) {
	t.Helper()
	for range 3 {
		if id, ok := w.Next(); ok || id != 0 {
			t.Errorf("%s: Next behind the last: %x, %v", what, id, ok)
		}
		for _, n := range []int{1, 7, 0, -1, math.MaxInt, math.MinInt} {
			if l := w.Take(n); len(l) != 0 {
				t.Errorf("%s: Take(%d) behind the last: %x", what, n, l)
			}
		}
	}
}

// wantReads holds what was read so far against the words of P16.3, and against what a walk needs.
func wantReads(t testing.TB, what string, g *graph.Graph, h *history, o Order, tips, nots []int, told []api.ID) {
	t.Helper()
	from := h.from(append(slices.Clone(tips), nots...)...)
	seen := make([]bool, len(h.puts))
	for _, id := range g.Read() {
		n := h.number(id)
		switch {
		case seen[n]:
			t.Errorf("%s: %d is read twice", what, n)
		case !from[n]:
			t.Errorf("%s: %d is read, which is from none of them", what, n)
		case o == ByDate && len(nots) == 0 && !slices.Contains(told, id):
			t.Errorf("%s: %d is read, and wasn't told", what, n)
		}
		seen[n] = true
	}
	if g.Trees() != 0 {
		t.Errorf("%s: files were read: %x", what, g.Opened())
	}
}

// wantWalk holds a walk, told by Nexts, and what it reads behind each of them, against the words of the chapter.
func wantWalk(t testing.TB, what string, g *graph.Graph, h *history, o Order, tips, nots []int) {
	t.Helper()
	what = fmt.Sprint(what, ": order ", o, " of ", tips, ", not ", nots)
	g.Reset()
	defer g.Reset()
	w := begin(t, what, g, h, o, tips, nots)
	wantReads(t, what, g, h, o, tips, nots, nil)
	var told []api.ID
	for id, ok := w.Next(); ok; id, ok = w.Next() {
		told = append(told, id)
		if o == ByDate && len(nots) == 0 || len(told) == 1 {
			wantReads(t, what, g, h, o, tips, nots, told)
		}
		if len(told) > len(h.puts) {
			t.Fatalf("%s: more commits than there are: %v", what, h.numbers(told))
		}
	}
	wantNone(t, what, w)
	wantReads(t, what, g, h, o, tips, nots, told)
	if want := h.plain(o, tips, nots); !slices.Equal(h.numbers(told), want) {
		t.Errorf("%s: %v, want %v", what, h.numbers(told), want)
	}
}

// wantWalks holds both orders against the chapter, and against what holds of any order.
func wantWalks(t testing.TB, what string, g *graph.Graph, h *history, tips, nots []int) {
	t.Helper()
	wantWalk(t, what, g, h, ByDate, tips, nots)
	wantWalk(t, what, g, h, ByTopo, tips, nots)
	inRange, e := reach.Range(g, h.of(tips...), h.of(nots...))
	h.must(e)
	for _, o := range []Order{ByDate, ByTopo} {
		told := begin(t, what, g, h, o, tips, nots).Take(math.MaxInt)
		if o == ByTopo {
			wantKidsFirst(t, what, h, told)
		}
		if len(nots) == 0 {
			if all, e := All(g, o, h.of(tips...)...); e != api.OK || !slices.Equal(all, told) {
				t.Errorf("%s: All of %v, %v: %v, %v, want %v", what, o, tips, h.numbers(all), e, h.numbers(told))
			}
		}
		slices.Sort(told)
		if !slices.Equal(told, inRange) {
			t.Errorf("%s: order %v of %v, not %v: %x, want %x", what, o, tips, nots, told, inRange)
		}
	}
	g.Reset()
}

// wantKidsFirst: ByTopo no commit is told ahead of a kid of it.
func wantKidsFirst(t testing.TB, what string, h *history, told []api.ID) {
	t.Helper()
	place := map[api.ID]int{}
	for at, id := range told {
		place[id] = at
	}
	for at, id := range told {
		for _, parent := range h.of(h.puts[h.number(id)].parents...) {
			if below, in := place[parent]; in && below < at {
				t.Errorf("%s: a parent is told ahead of its kid: %v", what, h.numbers(told))
			}
		}
	}
}

// wantAll asks for the walks of each commit, of each two, of none and of all.
func wantAll(t testing.TB, what string, g *graph.Graph, h *history) {
	t.Helper()
	for a := range h.puts {
		for b := range h.puts {
			wantWalks(t, what, g, h, []int{a}, []int{b})
			wantWalks(t, what, g, h, []int{a, b}, nil)
		}
		wantWalks(t, what, g, h, []int{a}, nil)
		wantWalks(t, what, g, h, nil, []int{a})
		wantWalks(t, what, g, h, h.all(), []int{a})
	}
	wantWalks(t, what, g, h, nil, nil)
	wantWalks(t, what, g, h, h.all(), nil)
	wantWalks(t, what, g, h, h.all(), h.all())
}

// wantSome asks for a few of them.
func wantSome(t testing.TB, what string, g *graph.Graph, h *history) {
	t.Helper()
	for a := range h.puts {
		wantWalks(t, what, g, h, []int{a}, nil)
		wantWalks(t, what, g, h, []int{len(h.puts) - 1, a / 2}, []int{a})
	}
	wantWalks(t, what, g, h, h.all(), nil)
}

// shapes has a root, branches and merges, a second root, merges of both, a root alone, and a commit with MaxParents parents; dates that rise, that are alike, that are ahead of kids', and at both ends.
func shapes(t testing.TB) *history {
	return newHistory(t,
		node{5, nil},                        // 0: a root
		node{3, []int{0}},                   // 1: below its parent's date
		node{9, []int{0}},                   // 2
		node{9, []int{1, 2}},                // 3: criss
		node{9, []int{2, 1}},                // 4: cross
		node{0, []int{3}},                   // 5: the least date
		node{10, []int{4}},                  // 6
		node{api.MaxDate, nil},              // 7: a second root, of the greatest date
		node{7, []int{7}},                   // 8
		node{8, []int{8, 5}},                // 9: of both
		node{9, []int{0}},                   // 10: above the root alone
		node{2, []int{6, 10, 2}},            // 11: a parent that is an ancestor of another
		node{0, nil},                        // 12: a root alone
		node{9, []int{0, 1, 2, 3, 4, 7, 8}}, // 13
		node{api.MaxDate, []int{9, 13, 11, 6, 5, 0, 12, 10}}, // 14: MaxParents
	)
}

// views are graphs of one history: without a chain, and of chains that cover none, some and all commits.
func views(h *history) map[string]*graph.Graph {
	all := map[string]*graph.Graph{"nil": graph.New(h.s, nil), "none": graph.New(h.s, h.c)}
	for _, tips := range [][]int{{0}, {3}, {9}, {11, 8}} {
		all[fmt.Sprint("from ", tips)] = h.covers(tips...)
	}
	// Covered by several layers, of which each stands on the other.
	h.must(h.c.Drop(1))
	h.write(2)
	h.write(6)
	h.write(5, 7)
	all["three layers"] = graph.New(h.s, h.c)
	h.write()
	all["all, four layers"] = graph.New(h.s, h.c)
	h.must(h.c.Merge(4))
	all["all, one layer"] = graph.New(h.s, h.c)
	return all
}

// The chapter's examples.
func TestExamples(t *testing.T) {
	h := newHistory(t, node{5, nil}, node{3, []int{0}}, node{4, []int{1}})
	g := graph.New(h.s, nil)
	if l, e := All(g, ByDate, h.puts[2].id); e != api.OK || !slices.Equal(l, h.of(2, 1, 0)) {
		t.Error(h.numbers(l), e)
	}
	h = newHistory(t, node{7, nil}, node{7, nil})
	g = graph.New(h.s, nil)
	ids := h.of(0, 1)
	slices.Sort(ids)
	for _, o := range []Order{ByDate, ByTopo} {
		for _, tips := range [][]api.ID{{ids[0], ids[1]}, {ids[1], ids[0]}} {
			if l, e := All(g, o, tips...); e != api.OK || !slices.Equal(l, ids) {
				t.Errorf("%x, %v", l, e)
			}
		}
	}
	// 1 is dated ahead of its kid 2, which hangs below a merge, behind which both wait.
	h = newHistory(t, node{1, nil}, node{8, []int{0}}, node{2, []int{1}}, node{9, []int{1, 2}})
	g = graph.New(h.s, nil)
	for o, want := range map[Order][]int{ByDate: {3, 1, 2, 0}, ByTopo: {3, 2, 1, 0}} {
		if l, e := All(g, o, h.puts[3].id); e != api.OK || !slices.Equal(h.numbers(l), want) {
			t.Error(o, h.numbers(l), e)
		}
	}
}

// The numbers of the orders are the document's.
func TestOrderNumbers(t *testing.T) {
	if ByDate != 1 || ByTopo != 2 {
		t.Error(int(ByDate), int(ByTopo))
	}
}

// P16.2: orders that can be read off a history by hand, told by their numbers and not by the plain evaluator.
func TestByHand(t *testing.T) {
	h := newHistory(t,
		node{5, nil}, node{3, []int{0}}, node{9, []int{0}}, node{4, []int{1}}, node{10, []int{2, 3}}, // a merge of two branches
		node{6, nil}, node{20, []int{5}}, // a second root, and one above it
		node{1, []int{4, 6}}, // of both
	)
	for what, g := range map[string]*graph.Graph{"nil": graph.New(h.s, nil), "some": h.covers(2), "all": h.covers()} {
		for _, c := range []struct {
			tips, nots, date, topo []int
		}{
			{tips: []int{0}, date: []int{0}, topo: []int{0}},
			{tips: []int{4}, date: []int{4, 2, 0, 3, 1}, topo: []int{4, 2, 3, 1, 0}},
			{tips: []int{3, 2}, date: []int{2, 0, 3, 1}, topo: []int{2, 3, 1, 0}},
			{tips: []int{7}, date: []int{7, 6, 4, 2, 5, 0, 3, 1}, topo: []int{7, 6, 4, 2, 5, 3, 1, 0}},
			{tips: []int{7}, nots: []int{3}, date: []int{7, 6, 4, 2, 5}, topo: []int{7, 6, 4, 2, 5}},
			{tips: []int{7}, nots: []int{2, 5}, date: []int{7, 6, 4, 3, 1}, topo: []int{7, 6, 4, 3, 1}},
			{tips: []int{7}, nots: []int{4, 6}, date: []int{7}, topo: []int{7}},
			{tips: []int{6, 4}, nots: []int{6}, date: []int{4, 2, 0, 3, 1}, topo: []int{4, 2, 3, 1, 0}},
			{tips: []int{4, 0, 1}, nots: []int{2}, date: []int{4, 3, 1}, topo: []int{4, 3, 1}},
			{tips: []int{0, 4}, date: []int{4, 2, 0, 3, 1}, topo: []int{4, 2, 3, 1, 0}},
			{tips: []int{1, 4}, date: []int{4, 2, 0, 3, 1}, topo: []int{4, 2, 3, 1, 0}},
			{tips: []int{0, 7}, date: []int{0, 7, 6, 4, 2, 5, 3, 1}, topo: []int{7, 6, 4, 2, 5, 3, 1, 0}},
			{tips: []int{2}, nots: []int{7}},
			{tips: []int{7, 4}, nots: []int{7}},
			{nots: []int{1}},
			{},
		} {
			for o, want := range map[Order][]int{ByDate: c.date, ByTopo: c.topo} {
				if told := begin(t, what, g, h, o, c.tips, c.nots).Take(100); !slices.Equal(h.numbers(told), want) {
					t.Errorf("%s: order %v of %v, not %v: %v, want %v", what, o, c.tips, c.nots, h.numbers(told), want)
				}
			}
			wantWalks(t, what, g, h, c.tips, c.nots)
		}
	}
}

// P16.1 to P16.3: all shapes, covered or not.
func TestShapes(t *testing.T) {
	h := shapes(t)
	for what, g := range views(h) {
		wantAll(t, what, g, h)
	}
}

// noOrders are such as are none.
func noOrders() []Order {
	return []Order{0, 3, 4, -1, -2, 257, 1 << 32, 1<<32 + 1, math.MaxInt, math.MaxInt - 1, math.MinInt, math.MinInt + 1}
}

// wantError hands in what New, and All, if there are no nots, refuse.
func wantError(t testing.TB, what string, g *graph.Graph, o Order, tips, nots []api.ID, want api.Errno) {
	t.Helper()
	if w, e := New(g, o, tips, nots); w != nil || e != want {
		t.Errorf("%s: New of %d, %x, %x: %v, %v, want %v", what, o, tips, nots, w, e, want)
	}
	if len(nots) > 0 {
		return
	}
	if l, e := All(g, o, tips...); len(l) != 0 || e != want {
		t.Errorf("%s: All of %d, %x: %x, %v, want %v", what, o, tips, l, e, want)
	}
}

// P16.1: an order that is none, alone and beside an ID of no commit, which is told behind it.
func TestNoOrder(t *testing.T) {
	h := shapes(t)
	for what, g := range views(h) {
		for _, o := range noOrders() {
			wantError(t, what, g, o, nil, nil, api.ErrRange)
			for _, good := range [][]api.ID{h.of(14), h.of(3, 0), h.of(7)} {
				wantError(t, what, g, o, good, nil, api.ErrRange)
				wantError(t, what, g, o, nil, good, api.ErrRange)
				wantError(t, what, g, o, good, good, api.ErrRange)
				for _, id := range h.strangers() {
					wantError(t, what, g, o, []api.ID{id}, nil, api.ErrRange)
					wantError(t, what, g, o, good, []api.ID{id}, api.ErrRange)
					wantError(t, what, g, o, []api.ID{id}, good, api.ErrRange)
				}
			}
		}
		if g.Visits() != 0 || g.Trees() != 0 {
			t.Errorf("%s: read in spite of ErrRange: %x, %x", what, g.Read(), g.Opened())
		}
	}
}

// P16.1: an ID that is no commit's, at each place among the tips and among the nots; nothing is read then.
func TestMissing(t *testing.T) {
	h := shapes(t)
	good := h.of(14, 3, 0)
	for what, g := range views(h) {
		for _, id := range h.strangers() {
			for _, ids := range [][]api.ID{{id}, {id, id}, {id, good[0]}, {good[0], id}, {good[0], id, good[1]}, append(slices.Clone(good), id)} {
				for _, o := range []Order{ByDate, ByTopo} {
					wantError(t, what, g, o, ids, nil, api.ErrMissing)
					wantError(t, what, g, o, ids, good, api.ErrMissing)
					wantError(t, what, g, o, nil, ids, api.ErrMissing)
					wantError(t, what, g, o, good, ids, api.ErrMissing)
					wantError(t, what, g, o, ids, ids, api.ErrMissing)
				}
			}
		}
		if g.Visits() != 0 || g.Trees() != 0 {
			t.Errorf("%s: read in spite of ErrMissing: %x, %x", what, g.Read(), g.Opened())
		}
	}
}

// A store without commits has none that could be handed in.
func TestNoCommits(t *testing.T) {
	h := newHistory(t)
	for what, g := range map[string]*graph.Graph{"nil": graph.New(h.s, nil), "none": graph.New(h.s, h.c)} {
		wantWalks(t, what, g, h, nil, nil)
		for _, id := range h.strangers() {
			for _, o := range []Order{ByDate, ByTopo} {
				wantError(t, what, g, o, []api.ID{id}, nil, api.ErrMissing)
				wantError(t, what, g, o, nil, []api.ID{id}, api.ErrMissing)
			}
		}
	}
}

// Rule 2: no IDs may be nil or empty.
func TestEmptyOrNil(t *testing.T) {
	h := shapes(t)
	g := graph.New(h.s, nil)
	for _, none := range [][]api.ID{nil, {}, h.of(0, 1)[:0]} {
		for _, o := range []Order{ByDate, ByTopo} {
			if l, e := All(g, o, none...); len(l) != 0 || e != api.OK {
				t.Errorf("All of none: %x, %v", l, e)
			}
			for _, nots := range [][]api.ID{nil, {}, h.of(3)} {
				w, e := New(g, o, none, nots)
				if e != api.OK {
					t.Fatal(e)
				}
				wantNone(t, "no tips", w)
			}
			w, e := New(g, o, h.of(3), none)
			if l := w.Take(9); e != api.OK || !slices.Equal(h.numbers(l), h.plain(o, []int{3}, nil)) {
				t.Error(o, h.numbers(l), e)
			}
		}
	}
}

// P16.2: one commit several times, among tips and nots, is there once.
func TestTheSameSeveralTimes(t *testing.T) {
	h := shapes(t)
	for what, g := range views(h) {
		for n := range h.puts {
			for _, times := range []int{2, 3, 50} {
				same := slices.Repeat([]int{n}, times)
				wantWalks(t, what, g, h, same, nil)
				wantWalks(t, what, g, h, same, same)
				wantWalks(t, what, g, h, append([]int{14}, same...), same)
				wantWalks(t, what, g, h, slices.Concat(same, []int{5, 9, 5}, same), []int{1, 1, 0})
			}
		}
	}
}

// P16.2: Take of all kinds of numbers, and Take and Next in turn.
func TestTake(t *testing.T) {
	h := shapes(t)
	for what, g := range views(h) {
		for _, o := range []Order{ByDate, ByTopo} {
			for _, nots := range [][]int{nil, {3}, {8, 1}} {
				want := h.of(h.plain(o, []int{14, 13}, nots)...)
				for _, sizes := range [][]int{
					{math.MaxInt}, {len(want)}, {len(want) + 1}, {len(want) - 1, 1}, {len(want) - 1, 2},
					{0, -1, math.MinInt, 1, 0, -5, 2, math.MinInt, math.MaxInt},
					slices.Repeat([]int{1}, len(want)), slices.Repeat([]int{2}, len(want)), slices.Repeat([]int{3, 0, -1}, len(want)),
				} {
					wantTakes(t, fmt.Sprint(what, " ", o, nots, sizes), begin(t, what, g, h, o, []int{14, 13}, nots), want, sizes, false)
					wantTakes(t, fmt.Sprint(what, " ", o, nots, sizes, " by turns"), begin(t, what, g, h, o, []int{14, 13}, nots), want, sizes, true)
				}
			}
		}
	}
}

// wantTakes takes so many at a time, and, by turns, one by Next behind each.
func wantTakes(t testing.TB, what string, w *Walk, want []api.ID, sizes []int, turns bool) {
	t.Helper()
	for _, n := range sizes {
		now := want[:max(0, min(n, len(want)))]
		if l := w.Take(n); !slices.Equal(l, now) {
			t.Fatalf("%s: Take(%d): %x, want %x", what, n, l, now)
		}
		want = want[len(now):]
		if !turns {
			continue
		}
		id, ok := w.Next()
		if ok != (len(want) > 0) || ok && id != want[0] || !ok && id != 0 {
			t.Fatalf("%s: Next behind Take(%d): %x, %v", what, n, id, ok)
		}
		want = want[min(1, len(want)):]
	}
	if l := w.Take(len(want) + 1); !slices.Equal(l, want) {
		t.Errorf("%s: the rest: %x, want %x", what, l, want)
	}
	wantNone(t, what, w)
}

// P16.2: of one date alone the IDs say who is ahead; of dates that rise or fall along a line the line does.
func TestDates(t *testing.T) {
	for what, date := range map[string]func(n int) int64{
		"all least":    func(int) int64 { return 0 },
		"all greatest": func(int) int64 { return api.MaxDate },
		"rising":       func(n int) int64 { return int64(n) },
		"falling":      func(n int) int64 { return int64(20 - n) },
		"both ends":    func(n int) int64 { return int64(n%2) * api.MaxDate },
		"ends, turned": func(n int) int64 { return int64(1-n%2) * api.MaxDate },
		"near the top": func(n int) int64 { return api.MaxDate - int64(n%3) },
		"low bits":     func(n int) int64 { return int64(n%4) << 32 },
	} {
		h := newHistory(t)
		for n, p := range shapes(t).puts {
			h.commit(date(n), p.parents...)
		}
		wantAll(t, what, graph.New(h.s, nil), h)
		wantSome(t, what+", covered", h.covers(), h)
	}
}

// P16.2: many tips of one date, in all orders of being handed in.
func TestTipsInAnyOrder(t *testing.T) {
	h := newHistory(t)
	for range 5 {
		h.commit(3)
	}
	h.commit(3, 0, 1)
	g := graph.New(h.s, nil)
	r := rand.New(rand.NewSource(1))
	for range 60 {
		wantWalks(t, "any order", g, h, r.Perm(6), nil)
		wantWalks(t, "any order", g, h, r.Perm(5), r.Perm(5)[:2])
	}
}

// line puts so many commits one above the other.
func line(t testing.TB, n int, date func(k int) int64) *history {
	h := newHistory(t, node{date(0), nil})
	for k := 1; k < n; k++ {
		h.commit(date(k), k-1)
	}
	return h
}

// P16.3: what is read of a line, step by step.
func TestReadsOfALine(t *testing.T) {
	h := line(t, 30, func(k int) int64 { return int64(k) })
	for what, g := range map[string]*graph.Graph{"nil": graph.New(h.s, nil), "half": h.covers(14), "all": h.covers()} {
		w := begin(t, what, g, h, ByDate, []int{29}, nil)
		if g.Visits() != 0 {
			t.Errorf("%s: New reads %x", what, g.Read())
		}
		for n := 1; n <= 30; n++ {
			if _, ok := w.Next(); !ok || g.Visits() > n {
				t.Errorf("%s: %d were told, %d read", what, n, g.Visits())
			}
		}
		wantNone(t, what, w)
		if g.Visits() > 30 {
			t.Errorf("%s: %d read", what, g.Visits())
		}
		g.Reset()
		begin(t, what, g, h, ByDate, []int{29}, nil).Take(5)
		if g.Visits() > 5 {
			t.Errorf("%s: Take(5) reads %d", what, g.Visits())
		}
		g.Reset()
		begin(t, what, g, h, ByDate, []int{29}, nil).Take(0)
		if g.Visits() != 0 {
			t.Errorf("%s: Take(0) reads %d", what, g.Visits())
		}
		g.Reset()
		begin(t, what, g, h, ByTopo, []int{29}, []int{20}).Take(math.MaxInt)
		if g.Visits() > 30 {
			t.Errorf("%s: with nots %d are read", what, g.Visits())
		}
		g.Reset()
		// What is read adds up from walk to walk.
		for times := 1; times <= 3; times++ {
			if _, e := All(g, ByDate, h.puts[9].id); e != api.OK || g.Visits() != 10*times {
				t.Errorf("%s: %d walks of 10: %d, %v", what, times, g.Visits(), e)
			}
		}
		g.Reset()
	}
}

// P16.3: many ways lead to each commit, and each is read once.
func TestReadsOfALadder(t *testing.T) {
	h := newHistory(t, node{0, nil}, node{0, nil})
	for n := 2; n < 120; n += 2 {
		h.commit(int64(n%7), n-2, n-1)
		h.commit(int64(n%5), n-1, n-2)
	}
	lone := h.commit(3)
	for what, g := range map[string]*graph.Graph{"nil": graph.New(h.s, nil), "half": h.covers(60, 61), "all": h.covers()} {
		for _, c := range [][2][]int{
			{{119}, nil}, {{118, 119}, nil}, {{119}, {60}}, {{119, 118}, {60, 61}}, {{119, lone}, {118}}, {{60}, {119}}, {{119}, {0}}, {{119, 60}, {lone, 1}},
		} {
			wantWalks(t, what, g, h, c[0], c[1])
		}
	}
}

// P16.2, P16.3: lines of about, and of more than, MaxIndexed commits, with a branch from the middle, a merge and a root alone.
func TestLongLines(t *testing.T) {
	for _, n := range []int{244, 250, 251, 300} {
		for what, date := range map[string]func(k int) int64{
			"rising":  func(k int) int64 { return int64(k) },
			"falling": func(k int) int64 { return int64(400 - k) },
			"mixed":   func(k int) int64 { return int64(k * 7 % 11) },
		} {
			h := line(t, n, date)
			side := h.commit(200, n/2)
			for range 4 {
				side = h.commit(5, side)
			}
			top := h.commit(100, n-1, side)
			lone := h.commit(7)
			for covered, g := range map[string]*graph.Graph{"nil": graph.New(h.s, nil), "some": h.covers(n - 5), "all": h.covers()} {
				for _, c := range [][2][]int{
					{{top}, nil}, {{top, lone}, {0}}, {{top}, {n - 3}}, {{top}, {n / 2}}, {{n - 1}, {side}}, {{side, n - 1}, {n/2 + 1}}, {{top, lone}, {lone, n - 1}}, {{n - 2}, {top}},
				} {
					wantWalks(t, fmt.Sprint(n, " ", what, " ", covered), g, h, c[0], c[1])
				}
			}
		}
	}
}

// Commits that are put behind the graph's making are there, and not covered.
func TestPutBehindTheGraph(t *testing.T) {
	h := shapes(t)
	all := views(h)
	h.commit(8, 14)
	h.commit(4, 1)
	h.commit(9, 16, 15)
	h.commit(9)
	h.commit(1, 18, 17)
	for what, g := range all {
		wantSome(t, what, g, h)
	}
	wantSome(t, "covered later", h.covers(), h)
}

// What is put, written or dropped while a walk goes on, changes nothing of it; so does a Reset.
func TestChangesInTheMiddle(t *testing.T) {
	for _, o := range []Order{ByDate, ByTopo} {
		for _, nots := range [][]int{nil, {2}, {8}} {
			h := shapes(t)
			h.write(9)
			g := graph.New(h.s, h.c)
			want := h.of(h.plain(o, []int{14}, nots)...)
			w := begin(t, "middle", g, h, o, []int{14}, nots)
			var told []api.ID
			for step := 0; step <= len(want); step++ {
				told = append(told, w.Take(1)...)
				wantReads(t, "middle", g, h, o, []int{14}, nots, told)
				switch step {
				case 1:
					h.commit(1, 14, 3)
				case 2:
					h.write()
				case 4:
					h.must(h.c.Drop(1))
					h.must(h.s.SetRef("main", h.puts[3].id))
				case 6:
					h.commit(api.MaxDate, 0)
					h.must(h.c.Drop(1))
				}
			}
			if !slices.Equal(told, want) {
				t.Errorf("order %v, not %v: %v, want %v", o, nots, h.numbers(told), h.numbers(want))
			}
			w = begin(t, "reset", g, h, o, []int{14}, nots)
			told = w.Take(2)
			g.Reset()
			if told = append(told, w.Take(100)...); !slices.Equal(told, want) {
				t.Errorf("order %v, not %v, reset: %v, want %v", o, nots, h.numbers(told), h.numbers(want))
			}
		}
	}
}

// Rule 4: walks of one graph by turns, each goes its own way.
func TestWalksByTurns(t *testing.T) {
	h := shapes(t)
	for what, g := range views(h) {
		var walks []*Walk
		var want, told [][]api.ID
		for _, o := range []Order{ByDate, ByTopo, ByDate, ByTopo} {
			for _, nots := range [][]int{nil, {3}, {7}} {
				walks = append(walks, begin(t, what, g, h, o, []int{14, 13}, nots))
				want = append(want, h.of(h.plain(o, []int{14, 13}, nots)...))
				told = append(told, nil)
			}
		}
		for step := range 40 {
			for at, w := range walks {
				told[at] = append(told[at], w.Take((step+at)%3)...)
			}
		}
		for at := range walks {
			if !slices.Equal(told[at], want[at]) {
				t.Errorf("%s: walk %d: %v, want %v", what, at, h.numbers(told[at]), h.numbers(want[at]))
			}
		}
		g.Reset()
	}
}

// subsets are all sets of numbers below n.
func subsets(n int) [][]int {
	var all [][]int
	for bits := range 1 << n {
		var one []int
		for k := range n {
			if bits>>k&1 == 1 {
				one = append(one, k)
			}
		}
		all = append(all, one)
	}
	return all
}

// P16.2: all sets of tips against all sets of nots of small histories, with dates of several kinds.
func TestAllSubsets(t *testing.T) {
	r := rand.New(rand.NewSource(2))
	for _, parents := range [][][]int{
		{nil, {0}, {0}, {1, 2}, {2, 1}},
		{nil, {0}, {1}, {2}, {3}},
		{nil, nil, {0, 1}, {1, 0}, {2, 3}},
		{nil, nil, nil, nil, nil},
		{nil, {0}, {0}, {0}, {1, 2, 3}},
		{nil, {0}, {1, 0}, {2, 0, 1}, {0}},
	} {
		for range 4 {
			h := newHistory(t)
			for _, list := range parents {
				h.commit(int64(r.Intn(4)), list...)
			}
			g := graph.New(h.s, nil)
			if r.Intn(2) == 0 {
				g = h.covers(r.Intn(5))
			}
			for _, tips := range subsets(len(parents)) {
				for _, nots := range subsets(len(parents)) {
					wantWalks(t, fmt.Sprint(h.puts), g, h, tips, nots)
				}
			}
		}
	}
}

// whole is a list with its spare room.
func whole(list []api.ID) []api.ID { return list[:cap(list)] }

// roomy lays a list into a longer one, whose spare room has a mark in each place.
func roomy(list []api.ID) []api.ID {
	all := slices.Repeat([]api.ID{77}, len(list)+64)
	copy(all, list)
	return all[:len(list)]
}

// fill writes into all of a list, and into its spare room.
func fill(list []api.ID) {
	for i := range whole(list) {
		whole(list)[i] = 66
	}
}

// Rule 3: answers are new memory; what is handed in is not changed, its spare room neither, and not kept.
func TestMemory(t *testing.T) {
	h := shapes(t)
	for what, g := range views(h) {
		for _, o := range []Order{ByDate, ByTopo} {
			for _, numbers := range [][2][]int{{{}, {}}, {{14}, {}}, {{6, 5, 6}, {0, 0}}, {{14, 3, 3, 0}, {8, 10}}, {{13, 9, 11, 10}, {13, 7}}, {{0, 7, 12}, {12}}} {
				tips, nots := roomy(h.of(numbers[0]...)), roomy(h.of(numbers[1]...))
				wasTips, wasNots := slices.Clone(whole(tips)), slices.Clone(whole(nots))
				want := h.of(h.plain(o, numbers[0], numbers[1])...)
				w, e := New(g, o, tips, nots)
				h.must(e)
				if !slices.Equal(whole(tips), wasTips) || !slices.Equal(whole(nots), wasNots) {
					t.Errorf("%s: New of %v changes what is handed in", what, numbers)
				}
				again, e := New(g, o, tips, nots)
				h.must(e)
				fill(tips)
				fill(nots)
				first, second := w.Take(3), w.Take(100)
				keep := slices.Concat(first, second)
				fill(first)
				fill(second)
				if !slices.Equal(keep, want) || !slices.Equal(again.Take(100), want) {
					t.Errorf("%s: order %v of %v: %v, want %v", what, o, numbers, h.numbers(keep), h.numbers(want))
				}
			}
			tips := roomy(h.of(14, 3))
			was := slices.Clone(whole(tips))
			first, _ := All(g, o, tips...)
			keep := slices.Clone(first)
			second, _ := All(g, o, tips...)
			fill(first)
			if !slices.Equal(whole(tips), was) || !slices.Equal(second, keep) || !slices.Equal(h.numbers(keep), h.plain(o, []int{14, 3}, nil)) {
				t.Errorf("%s: All shares memory", what)
			}
		}
	}
}

// Rule 3: a list that is both the tips and the nots, or overlaps with them.
func TestOneListTwice(t *testing.T) {
	h := shapes(t)
	g := graph.New(h.s, nil)
	ids := h.of(14, 6, 8)
	for _, o := range []Order{ByDate, ByTopo} {
		for _, c := range []struct {
			tips, nots []api.ID
			want       []int
		}{
			{ids, ids, nil},
			{ids[:1], ids[1:], h.plain(o, []int{14}, []int{6, 8})},
			{ids[:2], ids[1:], h.plain(o, []int{14, 6}, []int{6, 8})},
			{ids[:2], ids[2:], h.plain(o, []int{14, 6}, []int{8})},
		} {
			w, e := New(g, o, c.tips, c.nots)
			if l := w.Take(100); e != api.OK || !slices.Equal(h.numbers(l), c.want) {
				t.Error(o, h.numbers(l), c.want, e)
			}
			if !slices.Equal(ids, h.of(14, 6, 8)) {
				t.Fatalf("%x", ids)
			}
		}
	}
}

// The store, the chain and the disk are only asked.
func TestNothingIsWritten(t *testing.T) {
	h := shapes(t)
	h.write(3)
	tell := func() string {
		var b strings.Builder
		for _, name := range h.d.Names() {
			file, _ := h.d.Read(name)
			fmt.Fprintln(&b, name, file)
		}
		fmt.Fprintln(&b, h.d.Writes(), h.s.Commits(), h.s.Refs(), h.s.Tags(), h.c.Names(), h.c.Sizes(), h.c.Rows())
		return b.String()
	}
	was := tell()
	wantSome(t, "some", graph.New(h.s, h.c), h)
	if tell() != was {
		t.Error("something has changed")
	}
}

// P0.1: layers that were spoilt, and a chain that a cut left, change no answer; a power that is gone neither.
func TestSpoiltLayersAndCuts(t *testing.T) {
	h := shapes(t)
	for _, n := range []int{0, 3, 6} {
		h.write(n)
	}
	h.write()
	first := h.d
	for _, name := range append(h.c.Names(), "chain") {
		for _, at := range []int{5, 30} {
			h.d = first.Clone()
			h.must(h.d.Spoil(name, at, 4))
			h.open()
			wantSome(t, "spoilt "+name, graph.New(h.s, h.c), h)
		}
	}
	for after := range 7 {
		h.d = first.Clone()
		h.open()
		g := graph.New(h.s, h.c)
		h.must(h.d.Cut(after, 10))
		// Seven raw writes: the layer's file, the two of the swap, and four that go.
		if e := h.c.Merge(4); e != api.ErrDead {
			t.Fatal(after, e)
		}
		wantSome(t, fmt.Sprint("dead behind ", after), g, h)
		h.d.Restart()
		h.open()
		wantSome(t, fmt.Sprint("restarted behind ", after), graph.New(h.s, h.c), h)
	}
}

func pick[T any](r *rand.Rand, list []T) T { return list[r.Intn(len(list))] }

func some(r *rand.Rand, n int) []int {
	var numbers []int
	for range pick(r, []int{0, 1, 1, 2, 2, 2, 3, 5}) {
		numbers = append(numbers, r.Intn(n))
	}
	return numbers
}

// grow puts a commit above some that are there, mostly late ones; its date is mostly, but not always, above theirs.
func (h *history) grow(r *rand.Rand) {
	n := len(h.puts)
	parents := r.Perm(n)
	if late := min(n, 6); r.Intn(3) > 0 {
		parents = nil
		for _, k := range r.Perm(late) {
			parents = append(parents, n-1-k)
		}
	}
	date := pick(r, []int64{int64(n), int64(n), int64(n / 4), int64(r.Intn(50)), 0, api.MaxDate})
	h.commit(date, parents[:min(len(parents), pick(r, []int{0, 1, 1, 1, 1, 2, 2, 2, 3, 8}))]...)
}

// P16.1 to P16.3: random histories, chains and walks, against the words of the chapter.
func TestRandomWalks(t *testing.T) {
	r := rand.New(rand.NewSource(16))
	count := map[string]int{}
	for range 100 {
		h := newHistory(t, node{3, nil})
		for range 5 + r.Intn(40) {
			h.grow(r)
		}
		for range 3 {
			if r.Intn(3) > 0 {
				h.must(h.c.Write(h.of(some(r, len(h.puts))...)...))
			}
		}
		if r.Intn(3) == 0 {
			h.write()
		}
		g := graph.New(h.s, h.c)
		for range pick(r, []int{0, 0, 1, 2}) {
			h.grow(r)
		}
		for range 40 {
			tips, nots := some(r, len(h.puts)), some(r, len(h.puts))
			wantWalks(t, "any", g, h, tips, nots)
			wantWalks(t, "any", g, h, tips, nil)
			date, topo := h.plain(ByDate, tips, nots), h.plain(ByTopo, tips, nots)
			count[fmt.Sprint("any told ", len(date) > 0)]++
			count[fmt.Sprint("orders alike ", slices.Equal(date, topo))]++
			count[fmt.Sprint("covered ", g.Covered())]++
		}
		if t.Failed() {
			t.FailNow()
		}
	}
	for _, what := range []string{"any told true", "any told false", "orders alike true", "orders alike false", "covered true", "covered false"} {
		if count[what] < 200 {
			t.Error("met too seldom to tell much:", what, count)
		}
	}
}

// Rule 5: walks end soon on as many commits as a disk holds, and on long lists.
func TestMany(t *testing.T) {
	n := 3000
	h := line(t, n, func(k int) int64 { return int64(k * 7919 % 1000) })
	g := graph.New(h.s, nil)
	down := h.all()
	slices.Reverse(down)
	long := h.of(slices.Repeat([]int{n - 1, n - 1, n / 2}, 20000)...)
	others := h.of(slices.Repeat([]int{n / 2, 7}, 30000)...)
	for _, o := range []Order{ByDate, ByTopo} {
		all, e := All(g, o, h.puts[n-1].id)
		if e != api.OK || !slices.Equal(all, h.of(down...)) {
			t.Error(o, len(all), e)
		}
		w, e := New(g, o, long, others)
		h.must(e)
		if l := w.Take(math.MaxInt); !slices.Equal(l, h.of(down[:n/2-1]...)) {
			t.Error(o, len(l))
		}
	}
}

// The ways that the chapter asks for: All is variadic, and a walk embeds what it is built upon.
func TestWays(t *testing.T) {
	if !reflect.TypeOf(All).IsVariadic() {
		t.Error("All isn't variadic")
	}
	embedded := map[reflect.Type]bool{}
	for at := range reflect.TypeOf(Walk{}).NumField() {
		if f := reflect.TypeOf(Walk{}).Field(at); f.Anonymous {
			embedded[f.Type] = true
		}
	}
	if !embedded[reflect.TypeOf(&graph.Graph{})] || !embedded[reflect.TypeOf(&queue.Queue{})] {
		t.Error("a walk embeds no graph, or no queue:", embedded)
	}
}
