package change

import (
	"fmt"
	"math"
	"math/rand"
	"reflect"
	"slices"
	"strings"
	"testing"

	"forebear/api"
	"forebear/chain"
	"forebear/disk"
	"forebear/filter"
	"forebear/graph"
	"forebear/path"
	"forebear/store"
	"forebear/tree"
)

// texts are the files of a commit: by path the number of what is in them.
type texts map[string]int

// node is a commit to be put: its Date, the numbers of its parents, and its files.
type node struct {
	date    int64
	parents []int
	files   texts
}

// put is a commit as the tests put it: what is answered is held against it, not against what the store tells.
type put struct {
	node
	id, tree api.ID
}

// history is a disk with a store and a chain, and its commits in the order in which they were put; a commit's number is its place there.
type history struct {
	t     testing.TB
	d     *disk.Disk
	s     *store.Store
	c     *chain.Chain
	blobs map[int]api.ID
	puts  []put
}

func newHistory(t testing.TB, nodes ...node) *history {
	t.Helper()
	h := &history{t: t, d: disk.New(), blobs: map[int]api.ID{}}
	h.open()
	for _, n := range nodes {
		h.commit(n.date, n.files, n.parents...)
	}
	return h
}

// open opens store and chain anew.
func (h *history) open() {
	h.t.Helper()
	var e api.Errno
	h.s, e = store.Open(h.d)
	h.must(e)
	h.c, e = chain.Open(h.d, h.s)
	h.must(e)
}

func (h *history) must(e api.Errno) {
	h.t.Helper()
	if e != api.OK {
		h.t.Fatal(e)
	}
}

// blob is the ID of what has this number; 0 of none.
func (h *history) blob(n int) api.ID {
	h.t.Helper()
	if n == 0 {
		return 0
	}
	if _, there := h.blobs[n]; !there {
		id, e := h.s.Blob([]byte(fmt.Sprint(n)))
		h.must(e)
		h.blobs[n] = id
	}
	return h.blobs[n]
}

// commit puts one above those of these numbers; its note makes it unlike the others.
func (h *history) commit(date int64, files texts, parents ...int) int {
	h.t.Helper()
	var entries []api.Entry
	for _, p := range rising(files) {
		entries = append(entries, api.Entry{Path: p, Blob: h.blob(files[p])})
	}
	tree, e := h.s.Tree(entries...)
	h.must(e)
	id, e := h.s.Commit(api.Commit{Tree: tree, Parents: h.of(parents...), Date: date, Note: fmt.Sprint(len(h.puts))})
	h.must(e)
	h.puts = append(h.puts, put{node: node{date, slices.Clone(parents), files}, id: id, tree: tree})
	return len(h.puts) - 1
}

func rising(files texts) []string {
	var list []string
	for p := range files {
		list = append(list, p)
	}
	slices.Sort(list)
	return list
}

// of is the IDs of the commits of these numbers.
func (h *history) of(numbers ...int) []api.ID {
	var ids []api.ID
	for _, n := range numbers {
		ids = append(ids, h.puts[n].id)
	}
	return ids
}

func (h *history) all() []int {
	var all []int
	for n := range h.puts {
		all = append(all, n)
	}
	return all
}

func (h *history) number(id api.ID) int {
	return slices.IndexFunc(h.puts, func(p put) bool { return p.id == id })
}

func (h *history) numbers(ids []api.ID) []int {
	var list []int
	for _, id := range ids {
		list = append(list, h.number(id))
	}
	return list
}

// write lays a layer of the commits of these numbers and their ancestors; without numbers of all.
func (h *history) write(numbers ...int) {
	h.t.Helper()
	h.must(h.c.Write(h.of(numbers...)...))
}

// covers makes a graph whose chain covers the commits of these numbers and their ancestors; without numbers all.
func (h *history) covers(numbers ...int) *graph.Graph {
	h.t.Helper()
	for range h.c.Names() {
		h.must(h.c.Drop(1))
	}
	h.write(numbers...)
	return graph.New(h.s, h.c)
}

// strangers are IDs of no commit: of trees and blobs, of nothing, and such as are near to those of commits.
func (h *history) strangers() []api.ID {
	ids := []api.ID{0, 1, 5, 1 << 63, math.MaxUint64, h.blob(1)}
	for _, p := range h.puts[:min(3, len(h.puts))] {
		ids = append(ids, p.tree, p.id+1, p.id-1, ^p.id)
	}
	return slices.DeleteFunc(ids, func(id api.ID) bool { return h.number(id) >= 0 })
}

// parent is the files of the k-th parent of a commit; of the 0-th one that isn't there none.
func (h *history) parent(n, k int) texts {
	if parents := h.puts[n].parents; len(parents) > 0 {
		return h.puts[parents[k]].files
	}
	return nil
}

// parentsOf: how many a commit has in the sense of the chapter.
func (h *history) parentsOf(n int) int { return max(1, len(h.puts[n].parents)) }

// changed is the paths that aren't the same in a commit and in its k-th parent, rising.
func (h *history) changed(n, k int) []string {
	was, now := h.parent(n, k), h.puts[n].files
	unlike := texts{}
	for p := range was {
		if was[p] != now[p] {
			unlike[p] = 0
		}
	}
	for p := range now {
		if was[p] != now[p] {
			unlike[p] = 0
		}
	}
	return rising(unlike)
}

// has: does a path set of these have a path?
func has(limit []string, p string) bool {
	return len(limit) == 0 || slices.ContainsFunc(limit, func(l string) bool { return p == l || strings.HasPrefix(p, l+"/") })
}

// same: is a commit the same as its k-th parent, by the words of the chapter?
func (h *history) same(n, k int, limit []string) bool {
	return !slices.ContainsFunc(h.changed(n, k), func(p string) bool { return has(limit, p) })
}

// mayRead: does P17.3 let the files of a commit be read for such a limit?
func (h *history) mayRead(g *graph.Graph, n int, limit []string) bool {
	_, covered := g.Generation(h.puts[n].id)
	changed := h.changed(n, 0)
	if len(limit) == 0 || !covered || len(changed) > api.MaxFilterPaths {
		return true
	}
	// What leads to a changed path is one of the filter's paths, too.
	paths := texts{}
	for _, p := range changed {
		for at := range len(p) {
			if p[at] == '/' {
				paths[p[:at]] = 0
			}
		}
		paths[p] = 0
	}
	m := max(8, (api.FilterBits*len(paths)+7)/8*8)
	var set []int
	for p := range paths {
		set = append(set, filter.Positions(p, m)...)
	}
	return slices.ContainsFunc(limit, func(l string) bool {
		return !slices.ContainsFunc(filter.Positions(l, m), func(at int) bool { return !slices.Contains(set, at) })
	})
}

// walk tells the commits from tips by the words of chapter 16, ByDate.
func (h *history) walk(tips []int) []int {
	var told []int
	waiting := slices.Clone(tips)
	for len(waiting) > 0 {
		next := slices.MinFunc(waiting, func(a, b int) int {
			x, y := h.puts[a], h.puts[b]
			if x.date > y.date || x.date == y.date && x.id < y.id {
				return -1
			}
			return 1
		})
		told = append(told, next)
		waiting = append(waiting, h.puts[next].parents...)
		waiting = slices.DeleteFunc(waiting, func(n int) bool { return slices.Contains(told, n) })
	}
	return told
}

// touching: those of the walk that touch a limit, in its order.
func (h *history) touching(limit []string, tips []int) []int {
	return slices.DeleteFunc(h.walk(tips), func(n int) bool { return h.same(n, 0, limit) })
}

func limitOf(t testing.TB, paths ...string) path.Set {
	t.Helper()
	limit, e := path.Limit(paths...)
	if e != api.OK {
		t.Fatal(paths, e)
	}
	return limit
}

// wantSame holds Same, and what it reads, against the words of the chapter.
func wantSame(t testing.TB, what string, g *graph.Graph, h *history, n, k int, paths []string) {
	t.Helper()
	g.Reset()
	defer g.Reset()
	limit := limitOf(t, paths...)
	id := h.puts[n].id
	same, e := Same(g, id, k, limit)
	if want := h.same(n, k, paths); e != api.OK || same != want {
		t.Errorf("%s: Same of %d, %d, %v: %v, %v, want %v", what, n, k, paths, same, e, want)
	}
	pair := []api.ID{id}
	if len(h.puts[n].parents) > 0 {
		pair = append(pair, h.puts[h.puts[n].parents[k]].id)
	}
	opened := g.Opened()
	slices.Sort(opened)
	slices.Sort(pair)
	switch {
	case len(opened) > 0 && !slices.Equal(opened, pair):
		t.Errorf("%s: Same of %d, %d, %v reads the files of %v", what, n, k, paths, h.numbers(opened))
	case len(opened) > 0 && k == 0 && !h.mayRead(g, n, paths):
		t.Errorf("%s: Same of %d, %d, %v reads files though its filter says that it need not", what, n, k, paths)
	case len(opened) > 0 && k == 0 && len(paths) > 0 && !g.Maybe(id, limit.Paths()...):
		t.Errorf("%s: Same of %d, %d, %v reads files though Maybe is false", what, n, k, paths)
	case len(opened) == 0 && !same:
		t.Errorf("%s: Same of %d, %d, %v: false, and no files were read", what, n, k, paths)
	}
	if g.Visits() > 1 || g.Visits() == 1 && g.Read()[0] != id {
		t.Errorf("%s: Same of %d, %d, %v reads the parents of %v", what, n, k, paths, h.numbers(g.Read()))
	}
}

// wantPaths holds Paths against the words of the chapter.
func wantPaths(t testing.TB, what string, g *graph.Graph, h *history, n int) {
	t.Helper()
	g.Reset()
	defer g.Reset()
	var want []tree.Change
	for _, p := range h.changed(n, 0) {
		want = append(want, tree.Change{Path: p, Old: h.blob(h.parent(n, 0)[p]), New: h.blob(h.puts[n].files[p])})
	}
	if l, e := Paths(g, h.puts[n].id); e != api.OK || !slices.Equal(l, want) {
		t.Errorf("%s: Paths of %d: %v, %v, want %v", what, n, l, e, want)
	}
	if g.Trees() > 2 || g.Visits() > 1 {
		t.Errorf("%s: Paths of %d reads %v, %v", what, n, h.numbers(g.Read()), h.numbers(g.Opened()))
	}
}

// wantTouching holds Touching, and what it reads, against the words of the chapter.
func wantTouching(t testing.TB, what string, g *graph.Graph, h *history, paths []string, tips ...int) {
	t.Helper()
	g.Reset()
	defer g.Reset()
	list, e := Touching(g, limitOf(t, paths...), h.of(tips...)...)
	if want := h.touching(paths, tips); e != api.OK || !slices.Equal(h.numbers(list), want) {
		t.Errorf("%s: Touching of %v, %v: %v, %v, want %v", what, paths, tips, h.numbers(list), e, want)
	}
	// Each commit that may be read, and its first parent, once for its sake.
	left := map[int]int{}
	told := h.walk(tips)
	for _, n := range told {
		if h.mayRead(g, n, paths) {
			left[n]++
			for _, parent := range h.puts[n].parents[:min(1, len(h.puts[n].parents))] {
				left[parent]++
			}
		}
	}
	for _, n := range h.numbers(g.Opened()) {
		if left[n]--; left[n] < 0 {
			t.Errorf("%s: Touching of %v, %v reads the files of %d, or too often", what, paths, tips, n)
		}
	}
	for _, n := range h.numbers(g.Read()) {
		if !slices.Contains(told, n) {
			t.Errorf("%s: Touching of %v, %v reads the parents of %d", what, paths, tips, n)
		}
	}
	for _, id := range list {
		if !slices.Contains(g.Opened(), id) {
			t.Errorf("%s: Touching of %v, %v: %d, whose files weren't read", what, paths, tips, h.number(id))
		}
	}
}

// wantEach asks of each commit and parent, and for the walks of each commit, of each two near ones, and of all.
func wantEach(t testing.TB, what string, g *graph.Graph, h *history, limits [][]string) {
	t.Helper()
	for n := range h.puts {
		wantPaths(t, what, g, h, n)
		for _, paths := range limits {
			for k := range h.parentsOf(n) {
				wantSame(t, what, g, h, n, k, paths)
			}
			wantTouching(t, what, g, h, paths, n)
			wantTouching(t, what, g, h, paths, n, n/2)
		}
	}
	for _, paths := range limits {
		wantTouching(t, what, g, h, paths)
		wantTouching(t, what, g, h, paths, h.all()...)
	}
}

// wide is so many files, whose numbers begin with from.
func wide(n, from int) texts {
	files := texts{}
	for at := range n {
		files[fmt.Sprint("w", at)] = from + at
	}
	return files
}

// shapes has branches and merges, a file that was moved, files where others lead to files and back, commits without files, commits that change about MaxFilterPaths paths, and one with MaxParents parents.
func shapes(t testing.TB) *history {
	deep := "x/y/z/w/v/u"
	return newHistory(t,
		node{5, nil, texts{"a": 1, "d/a": 1}},                               // 0: a root
		node{3, []int{0}, texts{"a": 1, "b": 1, "d/a": 1}},                  // 1: b comes
		node{9, []int{0}, texts{"a": 2, "d/a": 1}},                          // 2: a changes
		node{9, []int{1, 2}, texts{"a": 2, "b": 1, "d/a": 1}},               // 3: of both
		node{9, []int{2, 1}, texts{"a": 2, "d/a": 1}},                       // 4: its first parent's very tree
		node{0, []int{3}, texts{"a": 2, "b": 1, "e": 1}},                    // 5: d/a is moved to e
		node{10, []int{4}, texts{"a/x": 1, "d/a": 1}},                       // 6: a leads to a file
		node{api.MaxDate, nil, nil},                                         // 7: a root without files
		node{7, []int{7}, nil},                                              // 8: without files, too
		node{8, []int{8, 5}, texts{"d": 3}},                                 // 9: a file where others have d/a
		node{9, []int{0}, texts{"a": 1, "d/a": 1}},                          // 10: its parent's very tree
		node{2, []int{6, 10, 2}, texts{"a": 1, "d/a": 1}},                   // 11: a is a file again
		node{0, nil, wide(8, 1)},                                            // 12: just MaxFilterPaths
		node{9, []int{12}, wide(8, 11)},                                     // 13: all of them
		node{9, []int{13}, wide(9, 21)},                                     // 14: one more
		node{9, []int{14}, wide(2, 21)},                                     // 15: one less
		node{1, []int{15}, nil},                                             // 16: all go
		node{4, []int{3}, texts{"a": 2, "b": 1, deep: 1}},                   // 17: a deep one
		node{4, []int{17}, texts{"a": 2, "b": 1, deep: 2, "x.": 1}},         // 18: which changes, beside a name near to what leads to it
		node{6, []int{9, 18, 11, 6, 5, 0, 12, 10}, texts{"a": 1, "d/a": 1}}, // 19: MaxParents, several of them the same
		node{6, []int{10, 0}, texts{"a": 1, "d/a": 1}},                      // 20: two parents of one tree, its own
		node{7, []int{16, 19}, wide(9, 31)},                                 // 21
	)
}

// limits are such as have all, some and none of the paths of shapes.
func limits() [][]string {
	return [][]string{
		nil, {"a"}, {"b"}, {"d"}, {"e"}, {"x"},
		{"d/a"}, {"a/x"}, {"a/x/y"}, {"x/y/z"}, {"x/y/z/w/v/u"}, {"x."}, {"x/y/z/w/v/u2"},
		{"a", "a/x"}, {"d/a", "d"}, {"a", "b", "a"}, {"a/x", "d/a", "e"},
		{"q"}, {"zz/y"}, {"aa"}, {"w"}, {"q", "r", "s/t"}, {"q", "w3"}, {"w0"}, {"w8"}, {"w7", "w1"},
		{"a", "b", "d", "e", "w0", "w1", "w2", "w3", "w4", "w5", "w6", "w7", "w8", "x", "y", "z"},
	}
}

// views are graphs of shapes: without a chain, and of chains that cover none, some and all commits.
func views(h *history) map[string]*graph.Graph {
	all := map[string]*graph.Graph{"nil": graph.New(h.s, nil), "none": graph.New(h.s, h.c)}
	for _, tips := range [][]int{{0}, {3, 7}, {9, 14}} {
		all[fmt.Sprint("from ", tips)] = h.covers(tips...)
	}
	// Covered by several layers, of which each stands on the other.
	h.must(h.c.Drop(1))
	h.write(2, 13)
	h.write(6)
	h.write(5, 14)
	all["three layers"] = graph.New(h.s, h.c)
	h.write()
	all["all, four layers"] = graph.New(h.s, h.c)
	h.must(h.c.Merge(4))
	all["all, one layer"] = graph.New(h.s, h.c)
	return all
}

// The chapter's examples.
func TestExamples(t *testing.T) {
	h := newHistory(t, node{0, nil, texts{"a": 1}}, node{1, []int{0}, texts{"a": 1, "b": 1}}, node{0, nil, nil}, node{1, []int{2}, texts{"b": 1}})
	root, next, empty, above := h.puts[0].id, h.puts[1].id, h.puts[2].id, h.puts[3].id
	for what, g := range map[string]*graph.Graph{"nil": graph.New(h.s, nil), "all": h.covers()} {
		if same, e := Same(g, next, 0, limitOf(t, "a")); !same || e != api.OK {
			t.Error(what, same, e)
		}
		for _, c := range []struct {
			limit path.Set
			tip   api.ID
			want  []api.ID
		}{
			{limitOf(t, "b"), next, []api.ID{next}},
			{path.Set{}, next, []api.ID{next, root}},
			{path.Set{}, above, []api.ID{above}},
			{path.Set{}, empty, nil},
		} {
			if l, e := Touching(g, c.limit, c.tip); e != api.OK || !slices.Equal(l, c.want) {
				t.Error(what, c.limit.Paths(), h.numbers(l), e)
			}
		}
	}
}

// P17.1, P17.2: answers that can be read off the shapes by hand, told by their numbers and not by the plain evaluator.
func TestByHand(t *testing.T) {
	h := shapes(t)
	for what, g := range views(h) {
		for _, c := range []struct {
			n, k  int
			limit []string
			want  bool
		}{
			{0, 0, []string{"a"}, false}, {0, 0, []string{"b"}, true}, {0, 0, nil, false}, // a root
			{7, 0, nil, true}, {7, 0, []string{"a"}, true}, {8, 0, nil, true}, // without files
			{1, 0, []string{"a"}, true}, {1, 0, []string{"b"}, false}, {1, 0, nil, false},
			{3, 0, []string{"a"}, false}, {3, 1, []string{"a"}, true}, {3, 0, []string{"b"}, true}, {3, 1, []string{"b"}, false},
			{4, 0, nil, true}, {4, 1, nil, false}, {4, 1, []string{"a"}, false}, {4, 1, []string{"d"}, true}, // what its filter says holds for k 0 alone
			{5, 0, []string{"d"}, false}, {5, 0, []string{"e"}, false}, {5, 0, []string{"a", "b"}, true}, // moved
			{6, 0, []string{"a"}, false}, {6, 0, []string{"a/x"}, false}, {6, 0, []string{"a/y"}, true}, {6, 0, []string{"d/a"}, true},
			{9, 0, []string{"d"}, false}, {9, 0, []string{"d/a"}, true}, {9, 1, []string{"d"}, false}, {9, 1, []string{"d/a"}, true},
			{10, 0, nil, true},
			{11, 0, []string{"a/x"}, false}, {11, 0, []string{"a"}, false}, {11, 1, nil, true}, {11, 2, []string{"a"}, false}, {11, 2, []string{"a/x", "d"}, true},
			{13, 0, []string{"w7"}, false}, {14, 0, []string{"w8"}, false}, {14, 0, []string{"w9"}, true}, {15, 0, []string{"w1"}, true}, {15, 0, []string{"w2"}, false}, {16, 0, []string{"w2"}, true}, {16, 0, []string{"w"}, true},
			{18, 0, []string{"x"}, false}, {18, 0, []string{"x/y/z/w/v"}, false}, {18, 0, []string{"x/y/w"}, true}, {18, 0, []string{"x."}, false},
			{19, 5, nil, true}, {19, 7, nil, true}, {19, 2, nil, true}, {19, 3, nil, false}, {19, 3, []string{"d"}, true}, {19, 6, []string{"a"}, false},
			{20, 0, nil, true}, {20, 1, nil, true},
		} {
			if same, e := Same(g, h.puts[c.n].id, c.k, limitOf(t, c.limit...)); same != c.want || e != api.OK {
				t.Errorf("%s: Same of %d, %d, %v: %v, %v", what, c.n, c.k, c.limit, same, e)
			}
		}
		for _, c := range []struct {
			limit      []string
			tips, want []int
		}{
			{[]string{"a"}, []int{3}, []int{3, 2, 0}}, // a merge is held against its first parent
			{[]string{"b"}, []int{3, 4}, []int{1}},
			{nil, []int{4}, []int{2, 0, 1}},
			{[]string{"d"}, []int{9, 10}, []int{9, 0, 5}},
			{[]string{"w7"}, []int{16}, []int{15, 14, 13, 12}},
			{[]string{"w7", "w0"}, []int{16}, []int{16, 15, 14, 13, 12}},
			{[]string{"q"}, []int{21}, nil},
			{nil, []int{8}, nil},
		} {
			if l, e := Touching(g, limitOf(t, c.limit...), h.of(c.tips...)...); e != api.OK || !slices.Equal(h.numbers(l), c.want) {
				t.Errorf("%s: Touching of %v, %v: %v, %v", what, c.limit, c.tips, h.numbers(l), e)
			}
		}
		one, two := h.blob(1), h.blob(2)
		for n, want := range map[int][]tree.Change{
			0:  {{Path: "a", New: one}, {Path: "d/a", New: one}},
			2:  {{Path: "a", Old: one, New: two}},
			3:  {{Path: "a", Old: one, New: two}},
			5:  {{Path: "d/a", Old: one}, {Path: "e", New: one}},
			6:  {{Path: "a", Old: two}, {Path: "a/x", New: one}},
			7:  nil,
			10: nil,
			11: {{Path: "a", New: one}, {Path: "a/x", Old: one}},
		} {
			if l, e := Paths(g, h.puts[n].id); e != api.OK || !slices.Equal(l, want) {
				t.Errorf("%s: Paths of %d: %v, %v", what, n, l, e)
			}
		}
	}
}

// P17.1 to P17.3: all shapes and limits, covered or not.
func TestShapes(t *testing.T) {
	h := shapes(t)
	for what, g := range views(h) {
		wantEach(t, what, g, h, limits())
	}
}

// noPlaces are numbers of no parent of a commit that has so many in the sense of the chapter.
func noPlaces(n int) []int {
	return []int{n, n + 1, api.MaxParents, 256, 1 << 32, 1<<32 + 1, math.MaxInt, math.MaxInt - 1, -1, -2, -n, -256, math.MinInt, math.MinInt + 1}
}

// wantNothingRead asks of a graph that was handed in beside errors alone.
func wantNothingRead(t testing.TB, what string, g *graph.Graph) {
	t.Helper()
	if g.Visits() != 0 || g.Trees() != 0 {
		t.Errorf("%s: read in spite of an error: %x, %x", what, g.Read(), g.Opened())
	}
}

// P17.1: a k that no parent has.
func TestNoSuchParent(t *testing.T) {
	h := shapes(t)
	for what, g := range views(h) {
		for n := range h.puts {
			for _, k := range noPlaces(h.parentsOf(n)) {
				for _, limit := range []path.Set{{}, limitOf(t, "a"), limitOf(t, "q")} {
					if same, e := Same(g, h.puts[n].id, k, limit); same || e != api.ErrRange {
						t.Errorf("%s: Same of %d, %d: %v, %v", what, n, k, same, e)
					}
				}
			}
		}
		wantNothingRead(t, what, g)
	}
}

// P17.1: a root has just the parent 0, one with parents just these.
func TestLastParent(t *testing.T) {
	h := shapes(t)
	for what, g := range views(h) {
		for n := range h.puts {
			last := h.parentsOf(n) - 1
			wantSame(t, what, g, h, n, last, nil)
			if _, e := Same(g, h.puts[n].id, last+1, path.Set{}); e != api.ErrRange {
				t.Errorf("%s: Same of %d, %d: %v", what, n, last+1, e)
			}
		}
	}
}

// P17.1: an ID of no commit, alone and beside a k that is none, which is told behind it.
func TestMissing(t *testing.T) {
	h := shapes(t)
	for what, g := range views(h) {
		for _, id := range h.strangers() {
			for _, k := range append(noPlaces(1), 0) {
				for _, limit := range []path.Set{{}, limitOf(t, "a"), limitOf(t, "q")} {
					if same, e := Same(g, id, k, limit); same || e != api.ErrMissing {
						t.Errorf("%s: Same of %x, %d: %v, %v", what, id, k, same, e)
					}
				}
			}
			if l, e := Paths(g, id); len(l) != 0 || e != api.ErrMissing {
				t.Errorf("%s: Paths of %x: %v, %v", what, id, l, e)
			}
		}
		wantNothingRead(t, what, g)
	}
}

// P17.2: a tip that is no commit, at each place among tips that are.
func TestMissingTip(t *testing.T) {
	h := shapes(t)
	good := h.of(21, 3, 0)
	for what, g := range views(h) {
		for _, id := range h.strangers() {
			for _, tips := range [][]api.ID{{id}, {id, id}, {id, good[0]}, {good[0], id}, {good[0], id, good[1]}, append(slices.Clone(good), id)} {
				for _, limit := range []path.Set{{}, limitOf(t, "a"), limitOf(t, "q")} {
					if l, e := Touching(g, limit, tips...); len(l) != 0 || e != api.ErrMissing {
						t.Errorf("%s: Touching of %x: %x, %v", what, tips, l, e)
					}
				}
			}
		}
		wantNothingRead(t, what, g)
	}
}

// A store without commits has none that could be handed in.
func TestNoCommits(t *testing.T) {
	h := newHistory(t)
	for what, g := range map[string]*graph.Graph{"nil": graph.New(h.s, nil), "none": graph.New(h.s, h.c)} {
		wantTouching(t, what, g, h, nil)
		wantTouching(t, what, g, h, []string{"a"})
		for _, id := range h.strangers() {
			if _, e := Same(g, id, 0, path.Set{}); e != api.ErrMissing {
				t.Errorf("%s: Same of %x: %v", what, id, e)
			}
			if _, e := Paths(g, id); e != api.ErrMissing {
				t.Errorf("%s: Paths of %x: %v", what, id, e)
			}
			if _, e := Touching(g, path.Set{}, id); e != api.ErrMissing {
				t.Errorf("%s: Touching of %x: %v", what, id, e)
			}
		}
	}
}

// Rule 2: no tips may be nil or empty; a path set of no paths is the zero one.
func TestNoTips(t *testing.T) {
	h := shapes(t)
	for what, g := range views(h) {
		for _, none := range [][]api.ID{nil, {}, h.of(0, 1)[:0]} {
			for _, paths := range limits() {
				if l, e := Touching(g, limitOf(t, paths...), none...); len(l) != 0 || e != api.OK {
					t.Errorf("%s: Touching of no tips: %x, %v", what, l, e)
				}
			}
		}
		wantNothingRead(t, what, g)
		for _, limit := range []path.Set{{}, limitOf(t), limitOf(t, []string{}...)} {
			for n := range h.puts {
				if same, e := Same(g, h.puts[n].id, 0, limit); e != api.OK || same != h.same(n, 0, nil) {
					t.Errorf("%s: Same of %d without paths: %v, %v", what, n, same, e)
				}
				if l, e := Touching(g, limit, h.puts[n].id); e != api.OK || !slices.Equal(h.numbers(l), h.touching(nil, []int{n})) {
					t.Errorf("%s: Touching of %d without paths: %v, %v", what, n, h.numbers(l), e)
				}
			}
		}
	}
}

// P17.2: the same tip several times, and tips of which one is an ancestor of another, are told of once.
func TestTheSameTipSeveralTimes(t *testing.T) {
	h := shapes(t)
	for what, g := range views(h) {
		for n := range h.puts {
			for _, paths := range [][]string{nil, {"a"}, {"w3", "d"}} {
				wantTouching(t, what, g, h, paths, n, n)
				wantTouching(t, what, g, h, paths, slices.Repeat([]int{n}, 50)...)
				wantTouching(t, what, g, h, paths, n, 5, 0, n, 16, 5)
			}
		}
	}
}

// A commit with the same parent twice can't be put, so that none has two parents alike but for their trees.
func TestTheSameParentTwice(t *testing.T) {
	h := shapes(t)
	if _, e := h.s.Commit(api.Commit{Tree: h.puts[0].tree, Parents: h.of(3, 3)}); e != api.ErrTwice {
		t.Error(e)
	}
	twin := h.commit(9, h.puts[3].files, 3)
	both := h.commit(9, h.puts[5].files, 3, twin)
	for what, g := range views(h) {
		for _, paths := range limits() {
			wantSame(t, what, g, h, twin, 0, paths)
			wantSame(t, what, g, h, both, 0, paths)
			wantSame(t, what, g, h, both, 1, paths)
			wantTouching(t, what, g, h, paths, both)
		}
	}
}

// P17.3: commits that change about MaxFilterPaths paths, with what leads to them and without.
func TestFewAndManyPaths(t *testing.T) {
	for _, dir := range []string{"", "d/", "d/e/f/g/h/"} {
		h := newHistory(t, node{0, nil, texts{dir + "base": 1}})
		for n := range 12 {
			files := texts{dir + "base": 1}
			for at := range n {
				files[fmt.Sprint(dir, "p", at)] = n
			}
			h.commit(int64(n), files, 0)
		}
		for n := range 12 {
			// All of them go.
			h.commit(int64(n), texts{dir + "base": 1}, n+1)
		}
		limits := [][]string{{"far/off"}, {"d"}, {"d/e"}, {"d/q"}, {"d/e/f/g/h"}, {"p0/x"}}
		for _, p := range []string{"base", "p0", "p7", "p8", "p9", "p11", "q", "p"} {
			limits = append(limits, []string{dir + p})
		}
		for what, g := range map[string]*graph.Graph{"nil": graph.New(h.s, nil), "some": h.covers(3, 7, 9), "all": h.covers()} {
			wantEach(t, what, g, h, limits)
		}
		// Of nine paths or more the filter says nothing, so that what is far from them is looked for.
		g := h.covers()
		for n := 1; n <= 12; n++ {
			g.Reset()
			if same, e := Same(g, h.puts[n].id, 0, limitOf(t, "far/off")); !same || e != api.OK {
				t.Errorf("%q: %d paths: %v, %v", dir, n-1, same, e)
			}
			if read := g.Trees() > 0; read != h.mayRead(g, n, []string{"far/off"}) || n-1 > api.MaxFilterPaths && !read {
				t.Errorf("%q: %d paths: are files read? %v", dir, n-1, read)
			}
		}
	}
}

// P17.3: paths that a filter doesn't leave out, though they haven't changed, are found to be the same by their files.
func TestFilterErrs(t *testing.T) {
	h := newHistory(t, node{0, nil, texts{"a": 1}}, node{1, []int{0}, texts{"a": 2}}, node{2, []int{1}, texts{"a": 2, "d/e": 1}}, node{3, []int{2}, wide(8, 1)})
	g := h.covers()
	erred, left := 0, 0
	for at := range 3000 {
		p := fmt.Sprint("n", at)
		for n := range h.puts {
			wantSame(t, "names", g, h, n, 0, []string{p})
			if g.Maybe(h.puts[n].id, p) {
				erred++
			} else {
				left++
			}
		}
		if at%100 == 0 {
			wantTouching(t, "names", g, h, []string{p}, 3)
		}
	}
	if erred < 20 || left < 1000 {
		t.Error("met too seldom to tell much:", erred, left)
	}
}

// P17.3: where Maybe of one of several paths is true the files are read, where it is so of none they aren't.
func TestSeveralPaths(t *testing.T) {
	h := shapes(t)
	g := h.covers()
	all := []string{"a", "b", "d/a", "e", "q", "r/s", "w3", "w8", "x", "zz", "a/x", "d"}
	none := 0
	for bits := 1; bits < 1<<len(all); bits += 7 {
		var paths []string
		for at, p := range all {
			if bits>>at&1 == 1 {
				paths = append(paths, p)
			}
		}
		for n := range h.puts {
			wantSame(t, "several", g, h, n, 0, paths)
			if !h.mayRead(g, n, paths) {
				none++
			}
		}
		wantTouching(t, "several", g, h, paths, 21, 20)
	}
	if none < 300 {
		t.Error("met too seldom to tell much:", none)
	}
}

// P0.2: of a line in one file, all covered, a walk for another path reads the files of the few whose filters err, or of none.
func TestReadsOfALine(t *testing.T) {
	h := newHistory(t, node{0, nil, texts{"a": 1, "b": 1}})
	for n := 1; n < 240; n++ {
		files := texts{"a": n/2 + 1, "b": 1}
		if n >= 100 {
			files["b"] = 2
		}
		h.commit(int64(n), files, n-1)
	}
	for what, g := range map[string]*graph.Graph{"nil": graph.New(h.s, nil), "half": h.covers(120), "all": h.covers()} {
		for _, p := range []string{"a", "b", "c", "a/x", "b.", "d"} {
			wantTouching(t, what, g, h, []string{p}, 239)
		}
		g.Reset()
		l, e := Touching(g, limitOf(t, "b"), h.puts[239].id)
		if e != api.OK || !slices.Equal(h.numbers(l), []int{100, 0}) {
			t.Error(what, h.numbers(l), e)
		}
		if g.Covered() && g.Trees() > 60 {
			t.Errorf("%s: the files of %d commits were read for two", what, g.Trees())
		}
		g.Reset()
	}
}

// P17.2: lines of about, and of more than, MaxIndexed commits.
func TestLongLines(t *testing.T) {
	for _, n := range []int{249, 250, 251, 300} {
		h := newHistory(t, node{0, nil, texts{"a": 1}})
		for k := 1; k < n; k++ {
			h.commit(int64(k*7%11), texts{"a": k/3 + 1, fmt.Sprint("d/", k/50): 1}, k-1)
		}
		side := h.commit(3, texts{"a": 5}, n/2)
		top := h.commit(4, texts{"a": 5, "d/1": 7}, n-1, side)
		for what, g := range map[string]*graph.Graph{"nil": graph.New(h.s, nil), "some": h.covers(n - 5), "all": h.covers()} {
			for _, paths := range [][]string{nil, {"a"}, {"d"}, {"d/1"}, {"q"}} {
				wantTouching(t, fmt.Sprint(n, what), g, h, paths, top)
				wantTouching(t, fmt.Sprint(n, what), g, h, paths, side, n-2)
				wantSame(t, fmt.Sprint(n, what), g, h, top, 0, paths)
				wantSame(t, fmt.Sprint(n, what), g, h, top, 1, paths)
				wantSame(t, fmt.Sprint(n, what), g, h, n-1, 0, paths)
			}
		}
	}
}

// P17.1, P17.3: all small trees, each above each, and merges of each two, for all small limits.
func TestAllPairs(t *testing.T) {
	var trees []texts
	for _, a := range []texts{{}, {"a": 1}, {"a": 2}, {"a/x": 1}, {"a/x": 1, "a/y": 2}} {
		trees = append(trees, a)
		with := texts{"b": 1}
		for p, n := range a {
			with[p] = n
		}
		trees = append(trees, with)
	}
	h := newHistory(t)
	for _, files := range trees {
		h.commit(1, files)
	}
	for below := range trees {
		for _, files := range trees {
			h.commit(2, files, below)
		}
		for _, other := range []int{0, 3, 6} {
			if other != below {
				for _, files := range trees[below%2 : 8] {
					h.commit(3, files, below, other)
				}
			}
		}
	}
	limits := [][]string{nil, {"a"}, {"b"}, {"a/x"}, {"a/y"}, {"a", "b"}, {"a/x", "b"}, {"a/x", "a/y"}, {"a/x/z"}, {"c"}}
	for what, g := range map[string]*graph.Graph{"nil": graph.New(h.s, nil), "some": h.covers(70, 90), "all": h.covers()} {
		for n := range h.puts {
			wantPaths(t, what, g, h, n)
			for _, paths := range limits {
				for k := range h.parentsOf(n) {
					wantSame(t, what, g, h, n, k, paths)
				}
				wantTouching(t, what, g, h, paths, n)
			}
		}
		for _, paths := range limits {
			wantTouching(t, what, g, h, paths, h.all()...)
		}
	}
}

// Commits that are put behind the graph's making are there, and not covered.
func TestPutBehindTheGraph(t *testing.T) {
	h := shapes(t)
	all := views(h)
	h.commit(8, texts{"a": 1, "q": 1}, 21)
	h.commit(4, texts{"a": 1, "b": 1, "d/a": 1}, 1)
	h.commit(9, nil, 22, 23)
	h.commit(9, texts{"q": 1})
	for what, g := range all {
		wantEach(t, what, g, h, [][]string{nil, {"a"}, {"q"}, {"b", "d"}})
	}
	wantEach(t, "covered later", h.covers(), h, limits())
}

// Rule 4: what is asked in between, written or dropped changes no answer.
func TestAskedInBetween(t *testing.T) {
	h := shapes(t)
	h.write(9)
	g := graph.New(h.s, h.c)
	limit := limitOf(t, "a", "d")
	want := h.of(h.touching([]string{"a", "d"}, []int{21})...)
	for step, do := range []func(){
		func() {},
		func() { h.write() },
		func() { h.must(h.c.Drop(1)) },
		func() { h.must(h.s.SetRef("main", h.puts[3].id)) },
		func() { h.commit(api.MaxDate, texts{"a": 9}, 21) },
		func() { h.must(h.c.Drop(1)) },
		func() { g.Parents(h.puts[3].id); g.Content(h.puts[3].id) },
		func() { Paths(g, h.puts[21].id); Same(g, h.puts[21].id, 1, path.Set{}) },
		g.Reset,
	} {
		do()
		if l, e := Touching(g, limit, h.puts[21].id); e != api.OK || !slices.Equal(l, want) {
			t.Errorf("step %d: %v, %v", step, h.numbers(l), e)
		}
	}
}

// whole is a list with its spare room.
func whole[T any](list []T) []T { return list[:cap(list)] }

// roomy lays a list into a longer one, whose spare room has a mark in each place.
func roomy[T any](list []T, mark T) []T {
	all := slices.Repeat([]T{mark}, len(list)+64)
	copy(all, list)
	return all[:len(list)]
}

// fill writes into all of a list, and into its spare room.
func fill[T any](list []T, mark T) {
	for i := range whole(list) {
		whole(list)[i] = mark
	}
}

// Rule 3: answers are new memory; what is handed in is not changed, its spare room neither, and not kept.
func TestMemory(t *testing.T) {
	h := shapes(t)
	for what, g := range views(h) {
		for _, numbers := range [][]int{{}, {21}, {21, 3, 3, 0}, {16, 9, 11, 10}, {0, 7, 12}} {
			for _, paths := range limits() {
				limit, want := limitOf(t, paths...), h.of(h.touching(paths, numbers)...)
				listed := limit.Paths()
				tips := roomy(h.of(numbers...), 77)
				was := slices.Clone(whole(tips))
				first, e := Touching(g, limit, tips...)
				h.must(e)
				if !slices.Equal(whole(tips), was) || !slices.Equal(limit.Paths(), listed) {
					t.Errorf("%s: Touching of %v, %v changes what is handed in", what, paths, numbers)
				}
				keep := slices.Clone(first)
				second, _ := Touching(g, limit, tips...)
				fill(first, 66)
				fill(tips, 66)
				third, _ := Touching(g, limit, h.of(numbers...)...)
				if !slices.Equal(keep, want) || !slices.Equal(second, want) || !slices.Equal(third, want) {
					t.Errorf("%s: Touching of %v, %v shares memory", what, paths, numbers)
				}
			}
		}
		for n, p := range h.puts {
			first, _ := Paths(g, p.id)
			keep := slices.Clone(first)
			second, _ := Paths(g, p.id)
			fill(first, tree.Change{Path: "z", Old: 6, New: 6})
			third, _ := Paths(g, p.id)
			if !slices.Equal(second, keep) || !slices.Equal(third, keep) {
				t.Errorf("%s: Paths of %d share memory", what, n)
			}
		}
		// What the graph has read is its own.
		g.Reset()
		l, _ := Touching(g, path.Set{}, h.puts[21].id)
		read, opened := g.Read(), g.Opened()
		fill(l, 66)
		if !slices.Equal(read, g.Read()) || !slices.Equal(opened, g.Opened()) || slices.Contains(g.Read(), 66) {
			t.Errorf("%s: Touching answers the graph's memory", what)
		}
		g.Reset()
	}
}

// The store, the chain and the disk are only asked.
func TestNothingIsWritten(t *testing.T) {
	h := shapes(t)
	h.write(3)
	tell := func() string {
		var b strings.Builder
		for _, name := range h.d.Names() {
			file, _ := h.d.Read(name)
			fmt.Fprintln(&b, name, file)
		}
		fmt.Fprintln(&b, h.d.Writes(), h.s.Commits(), h.s.Refs(), h.s.Tags(), h.c.Names(), h.c.Sizes(), h.c.Rows())
		return b.String()
	}
	was := tell()
	wantEach(t, "some", graph.New(h.s, h.c), h, limits())
	if tell() != was {
		t.Error("something has changed")
	}
}

// P0.1: layers that were spoilt, and a chain that a cut left, change no answer; a power that is gone neither.
func TestSpoiltLayersAndCuts(t *testing.T) {
	h := shapes(t)
	for _, n := range []int{0, 3, 14} {
		h.write(n)
	}
	h.write()
	first := h.d
	some := [][]string{nil, {"a"}, {"d/a"}, {"q"}, {"w3", "e"}}
	for _, name := range append(h.c.Names(), "chain") {
		file, _ := first.Read(name)
		for at := 0; at < len(file); at += 1 + len(file)/6 {
			h.d = first.Clone()
			h.must(h.d.Spoil(name, at, 4))
			h.open()
			wantEach(t, "spoilt "+name, graph.New(h.s, h.c), h, some)
		}
	}
	for after := range 7 {
		h.d = first.Clone()
		h.open()
		g := graph.New(h.s, h.c)
		h.must(h.d.Cut(after, 10))
		// Seven raw writes: the layer's file, the two of the swap, and four that go.
		if e := h.c.Merge(4); e != api.ErrDead {
			t.Fatal(after, e)
		}
		wantEach(t, fmt.Sprint("dead behind ", after), g, h, some)
		h.d.Restart()
		h.open()
		wantEach(t, fmt.Sprint("restarted behind ", after), graph.New(h.s, h.c), h, some)
	}
}

func pick[T any](r *rand.Rand, list []T) T { return list[r.Intn(len(list))] }

// names are such as lead to one another, and some beside them.
func names() []string {
	return []string{"a", "a/x", "a/x/y", "a/z", "b", "b/c", "b/c/d/e/f/g", "c", "c.", "d/1", "d/2", "d/3", "d/4", "d/5", "d/6", "e", "f", "g"}
}

// edit is files with some changes: a path that comes takes the place of what it leads to, and of what leads to it.
func edit(r *rand.Rand, files texts) texts {
	made := texts{}
	for p, n := range files {
		made[p] = n
	}
	for range pick(r, []int{0, 1, 1, 1, 2, 3, 7, 12, 20}) {
		p := pick(r, names())
		delete(made, p)
		if r.Intn(4) == 0 {
			continue
		}
		for q := range made {
			if strings.HasPrefix(q, p+"/") || strings.HasPrefix(p, q+"/") {
				delete(made, q)
			}
		}
		made[p] = 1 + r.Intn(3)
	}
	return made
}

// grow puts a commit above some late ones, or a root; its files are those of one of its parents, or near to them.
func (h *history) grow(r *rand.Rand) {
	n := len(h.puts)
	var parents []int
	for _, k := range r.Perm(min(n, 6))[:min(n, pick(r, []int{0, 1, 1, 1, 1, 2, 2, 3}))] {
		parents = append(parents, n-1-k)
	}
	files := texts{}
	if len(parents) > 0 {
		files = h.puts[pick(r, parents)].files
	}
	h.commit(pick(r, []int64{int64(n), int64(n / 4), int64(r.Intn(50)), 0, api.MaxDate}), edit(r, files), parents...)
}

func someNames(r *rand.Rand) []string {
	var paths []string
	for range pick(r, []int{0, 1, 1, 1, 2, 3, 16}) {
		paths = append(paths, pick(r, append(names(), "q", "b/q", "d", "b/c/d")))
	}
	return paths
}

// P17.1 to P17.3: random histories, chains and questions, against the words of the chapter.
func TestRandom(t *testing.T) {
	r := rand.New(rand.NewSource(17))
	count := map[string]int{}
	for range 80 {
		h := newHistory(t)
		for range 5 + r.Intn(40) {
			h.grow(r)
		}
		for range 3 {
			if r.Intn(3) > 0 {
				h.write(r.Intn(len(h.puts)), r.Intn(len(h.puts)))
			}
		}
		if r.Intn(3) == 0 {
			h.write()
		}
		g := graph.New(h.s, h.c)
		for range pick(r, []int{0, 0, 1, 2}) {
			h.grow(r)
		}
		for range 60 {
			paths := someNames(r)
			n := r.Intn(len(h.puts))
			k := r.Intn(h.parentsOf(n))
			wantSame(t, "any", g, h, n, k, paths)
			wantPaths(t, "any", g, h, n)
			wantTouching(t, "any", g, h, paths, n, r.Intn(len(h.puts)))
			count[fmt.Sprint("same ", h.same(n, k, paths))]++
			count[fmt.Sprint("read ", h.mayRead(g, n, paths))]++
			count[fmt.Sprint("wide ", len(h.changed(n, 0)) > api.MaxFilterPaths)]++
			count[fmt.Sprint("any told ", len(h.touching(paths, []int{n})) > 0)]++
			if k > 0 && !h.mayRead(g, n, paths) && !h.same(n, k, paths) {
				count["the filter says nothing of k"]++
			}
		}
		if t.Failed() {
			t.FailNow()
		}
	}
	for _, what := range []string{"same true", "same false", "read true", "read false", "wide true", "wide false", "any told true", "any told false", "the filter says nothing of k"} {
		if count[what] < 60 {
			t.Error("met too seldom to tell much:", what, count)
		}
	}
}

// Rule 5: walks end soon on as many commits as a disk holds, and on long lists.
func TestMany(t *testing.T) {
	h := newHistory(t, node{0, nil, texts{"a": 1}})
	n := 2500
	for k := 1; k < n; k++ {
		h.commit(int64(k), texts{"a": 1 + k/100%2}, k-1)
	}
	long := h.of(slices.Repeat([]int{n - 1, n - 1, n / 2}, 20000)...)
	var want []int
	for k := n - 100; k >= 0; k -= 100 {
		want = append(want, k)
	}
	for what, g := range map[string]*graph.Graph{"nil": graph.New(h.s, nil), "some": h.covers(n / 2)} {
		for _, limit := range []path.Set{{}, limitOf(t, "a"), limitOf(t, "a", "b", "c")} {
			if l, e := Touching(g, limit, long...); e != api.OK || !slices.Equal(l, h.of(want...)) {
				t.Error(what, len(l), e)
			}
		}
		if l, e := Touching(g, limitOf(t, "q"), long...); e != api.OK || len(l) != 0 {
			t.Error(what, len(l), e)
		}
	}
}

// The way that the chapter asks for.
func TestWays(t *testing.T) {
	if !reflect.TypeOf(Touching).IsVariadic() {
		t.Error("Touching isn't variadic")
	}
}
