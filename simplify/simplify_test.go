package simplify

import (
	"fmt"
	"math"
	"math/rand"
	"reflect"
	"slices"
	"strings"
	"testing"

	"forebear/api"
	"forebear/chain"
	"forebear/change"
	"forebear/disk"
	"forebear/graph"
	"forebear/path"
	"forebear/store"
)

// texts are the files of a commit: by path the number of what is in them.
type texts map[string]int

// node is a commit to be put: the numbers of its parents, and its files.
type node struct {
	parents []int
	files   texts
}

// put is a commit as the tests put it: what is answered is held against it, not against what the store tells.
type put struct {
	node
	id, tree api.ID
}

// history is a disk with a store and a chain, and its commits in the order in which they were put; a commit's number is its place there, so that its parents' are below it.
type history struct {
	t     testing.TB
	d     *disk.Disk
	s     *store.Store
	c     *chain.Chain
	blobs map[int]api.ID
	trees map[string]api.ID
	puts  []put
}

func newHistory(t testing.TB, nodes ...node) *history {
	t.Helper()
	h := &history{t: t, d: disk.New(), blobs: map[int]api.ID{}, trees: map[string]api.ID{}}
	h.open()
	for _, n := range nodes {
		h.commit(n.files, n.parents...)
	}
	return h
}

// open opens store and chain anew.
func (h *history) open() {
	h.t.Helper()
	var e api.Errno
	h.s, e = store.Open(h.d)
	h.must(e)
	h.c, e = chain.Open(h.d, h.s)
	h.must(e)
}

func (h *history) must(e api.Errno) {
	h.t.Helper()
	if e != api.OK {
		h.t.Fatal(e)
	}
}

func (h *history) blob(n int) api.ID {
	h.t.Helper()
	if _, there := h.blobs[n]; !there {
		id, e := h.s.Blob([]byte(fmt.Sprint(n)))
		h.must(e)
		h.blobs[n] = id
	}
	return h.blobs[n]
}

func (h *history) tree(files texts) api.ID {
	h.t.Helper()
	key := fmt.Sprint(files)
	if _, there := h.trees[key]; !there {
		var entries []api.Entry
		for _, p := range rising(files) {
			entries = append(entries, api.Entry{Path: p, Blob: h.blob(files[p])})
		}
		id, e := h.s.Tree(entries...)
		h.must(e)
		h.trees[key] = id
	}
	return h.trees[key]
}

func rising(files texts) []string {
	var list []string
	for p := range files {
		list = append(list, p)
	}
	slices.Sort(list)
	return list
}

// tryCommit puts one above those of these numbers; its note makes it unlike the others, and its Date says nothing.
func (h *history) tryCommit(files texts, parents ...int) api.Errno {
	h.t.Helper()
	p := put{node: node{slices.Clone(parents), files}, tree: h.tree(files)}
	n := len(h.puts)
	var e api.Errno
	p.id, e = h.s.Commit(api.Commit{Tree: p.tree, Parents: h.of(parents...), Date: int64(n * 7 % 5), Note: fmt.Sprint(n)})
	if e == api.OK {
		h.puts = append(h.puts, p)
	}
	return e
}

func (h *history) commit(files texts, parents ...int) int {
	h.t.Helper()
	h.must(h.tryCommit(files, parents...))
	return len(h.puts) - 1
}

// of is the IDs of the commits of these numbers.
func (h *history) of(numbers ...int) []api.ID {
	var ids []api.ID
	for _, n := range numbers {
		ids = append(ids, h.puts[n].id)
	}
	return ids
}

func (h *history) all() []int {
	var all []int
	for n := range h.puts {
		all = append(all, n)
	}
	return all
}

func (h *history) number(id api.ID) int {
	return slices.IndexFunc(h.puts, func(p put) bool { return p.id == id })
}

func (h *history) numbers(ids []api.ID) []int {
	var list []int
	for _, id := range ids {
		list = append(list, h.number(id))
	}
	return list
}

// write lays a layer of the commits of these numbers and their ancestors; without numbers of all.
func (h *history) write(numbers ...int) {
	h.t.Helper()
	h.must(h.c.Write(h.of(numbers...)...))
}

// covers makes a graph whose chain covers the commits of these numbers and their ancestors; without numbers all.
func (h *history) covers(numbers ...int) *graph.Graph {
	h.t.Helper()
	for range h.c.Names() {
		h.must(h.c.Drop(1))
	}
	h.write(numbers...)
	return graph.New(h.s, h.c)
}

// strangers are IDs of no commit: of trees and blobs, of nothing, and such as are near to those of commits.
func (h *history) strangers() []api.ID {
	ids := []api.ID{0, 1, 5, 1 << 63, math.MaxUint64, h.blob(1), h.tree(nil)}
	for _, p := range h.puts[:min(3, len(h.puts))] {
		ids = append(ids, p.tree, p.id+1, p.id-1, ^p.id)
	}
	return slices.DeleteFunc(ids, func(id api.ID) bool { return h.number(id) >= 0 })
}

// question is what Run is asked.
type question struct {
	mode       Mode
	paths      []string
	tips, nots []int
}

// marks tells of each number whether it is one of some commits.
type marks []bool

// from: the commits from these.
func (h *history) from(numbers ...int) marks {
	in := make(marks, len(h.puts))
	for _, n := range numbers {
		in[n] = true
	}
	for n := len(in) - 1; n >= 0; n-- {
		for _, parent := range h.puts[n].parents {
			in[parent] = in[parent] || in[n]
		}
	}
	return in
}

// ofRun: the commits of a run, by the words of the chapter.
func (h *history) ofRun(q question) marks {
	in, others := h.from(q.tips...), h.from(q.nots...)
	for n := range in {
		in[n] = in[n] && !others[n]
		if in[n] && q.mode == Ancestry {
			own := h.from(n)
			in[n] = slices.ContainsFunc(q.nots, func(not int) bool { return own[not] })
		}
	}
	return in
}

// has: does a path set of these have a path?
func has(limit []string, p string) bool {
	return len(limit) == 0 || slices.ContainsFunc(limit, func(l string) bool { return p == l || strings.HasPrefix(p, l+"/") })
}

// parent is the files of the k-th parent of a commit; of the 0-th one that isn't there none.
func (h *history) parent(n, k int) texts {
	if parents := h.puts[n].parents; len(parents) > 0 {
		return h.puts[parents[k]].files
	}
	return nil
}

// same: is a commit the same as its k-th parent, by the words of chapter 17?
func (h *history) same(n, k int, limit []string) bool {
	was, now := h.parent(n, k), h.puts[n].files
	for p := range was {
		if was[p] != now[p] && has(limit, p) {
			return false
		}
	}
	for p := range now {
		if was[p] != now[p] && has(limit, p) {
			return false
		}
	}
	return true
}

// sames: as which of its parents, by their places, a commit is the same.
func (h *history) sames(n int, limit []string) []int {
	var list []int
	for k := range max(1, len(h.puts[n].parents)) {
		if h.same(n, k, limit) {
			list = append(list, k)
		}
	}
	return list
}

// edges: where those that the mode follows go from a commit of the run.
func (h *history) edges(q question, in marks, n int) []int {
	parents := h.puts[n].parents
	if sames := h.sames(n, q.paths); q.mode == Default && len(sames) > 0 && len(parents) > 0 {
		parents = []int{parents[sames[0]]}
	}
	return slices.DeleteFunc(slices.Clone(parents), func(parent int) bool { return !in[parent] })
}

// plain is a simplified history: which commits are visited, and of the kept ones their Parents.
type plain struct {
	visited marks
	kept    map[int][]int
}

// simplified tells it by the words of the chapter: what is visited from the highest number on, what is first kept from the lowest on.
func (h *history) simplified(q question) plain {
	in := h.ofRun(q)
	visited := make(marks, len(in))
	for n := len(in) - 1; n >= 0; n-- {
		visited[n] = in[n] && (visited[n] || q.mode != Default || slices.Contains(q.tips, n))
		if visited[n] {
			for _, to := range h.edges(q, in, n) {
				visited[to] = true
			}
		}
	}
	first := make([][]int, len(in))
	kept := map[int][]int{}
	for n := range in {
		if !in[n] {
			continue
		}
		var below []int
		for _, to := range h.edges(q, in, n) {
			for _, one := range first[to] {
				if !slices.Contains(below, one) {
					below = append(below, one)
				}
			}
		}
		first[n] = below
		if visited[n] && (len(h.sames(n, q.paths)) == 0 || q.mode == Merges && len(h.puts[n].parents) >= 2) {
			first[n], kept[n] = []int{n}, below
		}
	}
	return plain{visited, kept}
}

func limitOf(t testing.TB, paths ...string) path.Set {
	t.Helper()
	limit, e := path.Limit(paths...)
	if e != api.OK {
		t.Fatal(paths, e)
	}
	return limit
}

// ask is Run by numbers: of each kept commit its number and its Parents'.
func (h *history) ask(g *graph.Graph, q question) []Kept {
	h.t.Helper()
	list, e := Run(g, q.mode, limitOf(h.t, q.paths...), h.of(q.tips...), h.of(q.nots...))
	if e != api.OK {
		h.t.Errorf("%v: %v", q, e)
	}
	return list
}

// tell is what is kept by numbers.
func (h *history) tell(list []Kept) map[int][]int {
	told := map[int][]int{}
	for _, k := range list {
		told[h.number(k.ID)] = h.numbers(k.Parents)
	}
	return told
}

// wantRun holds Run against the words of the chapter, and what it reads against those of chapter 17.
func wantRun(t testing.TB, what string, g *graph.Graph, h *history, q question) []Kept {
	t.Helper()
	g.Reset()
	defer g.Reset()
	list := h.ask(g, q)
	want := h.simplified(q)
	if got := h.tell(list); len(list) != len(got) || !reflect.DeepEqual(got, want.kept) {
		t.Errorf("%s: %v: %v, want %v", what, q, got, want.kept)
	}
	if !slices.IsSortedFunc(list, func(a, b Kept) int { return compare(a.ID, b.ID) }) {
		t.Errorf("%s: %v: not rising: %v", what, q, h.numbers(IDs(list...)))
	}
	wantReads(t, what, g, h, q, want.visited)
	return list
}

func compare(a, b api.ID) int {
	switch {
	case a < b:
		return -1
	case a > b:
		return 1
	}
	return 0
}

// wantReads: the files of a visited commit and of its parents are read for its sake, each parent once at most, and only if the limit has no Paths, or its filter doesn't say that it is the same as its first parent; other files aren't read.
func wantReads(t testing.TB, what string, g *graph.Graph, h *history, q question, visited marks) {
	t.Helper()
	left := map[int]int{}
	for n := range h.puts {
		if !visited[n] || len(q.paths) > 0 && !g.Maybe(h.puts[n].id, limitOf(t, q.paths...).Paths()...) {
			continue
		}
		left[n] += max(1, len(h.puts[n].parents))
		for _, parent := range h.puts[n].parents {
			left[parent]++
		}
	}
	for _, n := range h.numbers(g.Opened()) {
		if left[n]--; left[n] < 0 {
			t.Errorf("%s: %v reads the files of %d, or too often", what, q, n)
		}
	}
	told := h.from(append(slices.Clone(q.tips), q.nots...)...)
	for _, n := range h.numbers(g.Read()) {
		if !told[n] {
			t.Errorf("%s: %v reads the parents of %d", what, q, n)
		}
	}
}

// wantAmong: P18.3.
func wantAmong(t testing.TB, what string, few, many []Kept) {
	t.Helper()
	ids := IDs(many...)
	for _, id := range IDs(few...) {
		if !slices.Contains(ids, id) {
			t.Errorf("%s: %x is kept by the lesser mode alone", what, id)
		}
	}
}

func modes() []Mode { return []Mode{Default, Full, Merges, Ancestry} }

// wantModes asks in all modes.
func wantModes(t testing.TB, what string, g *graph.Graph, h *history, paths []string, tips, nots []int) {
	t.Helper()
	told := map[Mode][]Kept{}
	for _, m := range modes() {
		told[m] = wantRun(t, what, g, h, question{m, paths, tips, nots})
	}
	wantAmong(t, what+": Default and Full", told[Default], told[Full])
	wantAmong(t, what+": Ancestry and Full", told[Ancestry], told[Full])
	wantAmong(t, what+": Full and Merges", told[Full], told[Merges])
}

// wantEach asks of each commit as the tip, without nots and with such as are near, and of some tips together.
func wantEach(t testing.TB, what string, g *graph.Graph, h *history, limits [][]string) {
	t.Helper()
	last := len(h.puts) - 1
	for _, paths := range limits {
		for n := range h.puts {
			wantModes(t, what, g, h, paths, []int{n}, nil)
			wantModes(t, what, g, h, paths, []int{last, n}, []int{n / 2})
			wantModes(t, what, g, h, paths, []int{last}, []int{n, n / 3})
		}
		wantModes(t, what, g, h, paths, h.all(), nil)
		wantModes(t, what, g, h, paths, h.all(), h.all())
	}
}

// shapes has branches and merges, roots with files and without, merges that are the same as their first parent, as another one, as several, as none, parents one of which is an ancestor of another, and one with MaxParents parents.
func shapes(t testing.TB) *history {
	return newHistory(t,
		node{nil, texts{"a": 1, "d/x": 1}},                 // 0: a root
		node{[]int{0}, texts{"a": 1, "b": 1, "d/x": 1}},    // 1: b comes
		node{[]int{0}, texts{"a": 2, "d/x": 1}},            // 2: a changes
		node{[]int{1, 2}, texts{"a": 2, "b": 1, "d/x": 1}}, // 3: of both
		node{[]int{2, 1}, texts{"a": 2, "d/x": 1}},         // 4: its first parent's very tree
		node{[]int{3}, texts{"a": 3, "b": 1, "d/y": 1}},    // 5: a changes, d/x is moved
		node{[]int{4}, texts{"a": 3, "d/x": 1}},            // 6: a changes alike
		node{[]int{5, 6}, texts{"a": 3, "b": 1, "d/x": 1}}, // 7: for a the same as both
		node{nil, nil},                                                       // 8: a root without files
		node{[]int{8}, nil},                                                  // 9: without files, too
		node{[]int{8, 9}, texts{"c": 1}},                                     // 10: a parent and its parent
		node{[]int{9, 8}, texts{"a": 1}},                                     // 11: the other way round
		node{[]int{7, 10}, texts{"a": 4, "c": 1}},                            // 12: for a as none
		node{[]int{11, 0, 2}, texts{"a": 1, "b": 2}},                         // 13: for a as two of three
		node{[]int{12}, texts{"a": 4, "c": 1}},                               // 14: its parent's very tree
		node{[]int{14, 7, 12}, texts{"a": 4, "b": 1, "c": 2}},                // 15
		node{[]int{15, 13, 7, 4, 2, 1, 9, 0}, texts{"a": 9, "d": 1}},         // 16: MaxParents
		node{[]int{0, 1, 2, 4, 7, 9, 13, 15}, texts{"a": 1, "d/x": 1}},       // 17: and the same as several
		node{[]int{16, 17}, texts{"a": 1, "c": 3, "d/x": 1, "e/f/g/h/i": 1}}, // 18
		node{[]int{18}, texts{"a": 1, "c": 3, "d/x": 1, "e/f/g/h/i": 2}},     // 19
		node{nil, wide(9, 1)},                                                // 20: a root of more than MaxFilterPaths
		node{[]int{20, 19}, wide(8, 1)},                                      // 21
	)
}

// wide is so many files, whose numbers begin with from.
func wide(n, from int) texts {
	files := texts{}
	for at := range n {
		files[fmt.Sprint("w", at)] = from + at
	}
	return files
}

// limits are such as have all, some and none of the paths of shapes.
func limits() [][]string {
	return [][]string{
		nil, {"a"}, {"b"}, {"c"}, {"d"}, {"d/x"}, {"e/f"}, {"w8"}, {"q"},
		{"d", "d/x"}, {"e/f/g/h/i", "e", "e/f"}, {"a", "b", "a"}, {"q", "zz/y"},
		{"a", "b", "c", "d", "e", "w0", "w1", "w2", "w3", "w4", "w5", "w6", "w7", "w8", "y", "z"},
	}
}

// views are graphs of a history of 22 commits: without a chain, and of chains that cover none, some and all commits.
func views(h *history) map[string]*graph.Graph {
	all := map[string]*graph.Graph{"nil": graph.New(h.s, nil), "none": graph.New(h.s, h.c)}
	for _, tips := range [][]int{{0}, {5, 9}, {16, 20}} {
		all[fmt.Sprint("from ", tips)] = h.covers(tips...)
	}
	// Covered by several layers, of which each stands on the other.
	h.must(h.c.Drop(1))
	h.write(2, 9)
	h.write(6)
	h.write(15, 20)
	all["three layers"] = graph.New(h.s, h.c)
	h.write()
	all["all, four layers"] = graph.New(h.s, h.c)
	h.must(h.c.Merge(4))
	all["all, one layer"] = graph.New(h.s, h.c)
	return all
}

// The chapter's example.
func TestExample(t *testing.T) {
	h := newHistory(t,
		node{nil, texts{"a": 1}},                      // 0: r
		node{[]int{0}, texts{"a": 1, "b": 1}},         // 1: x
		node{[]int{0}, texts{"a": 2}},                 // 2: y
		node{[]int{1, 2}, texts{"a": 2, "b": 1}},      // 3: m
		node{[]int{2, 1}, texts{"a": 2, "b": 1}},      // 4: m, the other way round
		node{[]int{3}, texts{"a": 2, "b": 1, "c": 1}}, // 5: above it
	)
	two := map[int][]int{0: nil, 2: {0}}
	for what, g := range map[string]*graph.Graph{"nil": graph.New(h.s, nil), "some": h.covers(2), "all": h.covers()} {
		for _, c := range []struct {
			mode Mode
			tip  int
			want map[int][]int
		}{
			{Default, 3, two}, {Full, 3, two}, {Merges, 3, map[int][]int{0: nil, 2: {0}, 3: {0, 2}}}, {Ancestry, 3, map[int][]int{}},
			{Default, 4, two}, {Full, 4, two}, {Merges, 4, map[int][]int{0: nil, 2: {0}, 4: {2, 0}}},
			{Default, 5, two}, {Full, 5, two}, {Merges, 5, map[int][]int{0: nil, 2: {0}, 3: {0, 2}}},
		} {
			if got := h.tell(h.ask(g, question{c.mode, []string{"a"}, []int{c.tip}, nil})); !reflect.DeepEqual(got, c.want) {
				t.Errorf("%s: mode %d of %d: %v, want %v", what, c.mode, c.tip, got, c.want)
			}
		}
	}
}

// handed is a case whose answer is told by hand, not by the plain evaluator: of {a}.
type handed struct {
	mode       Mode
	tips, nots []int
	want       map[int][]int
}

func wantByHand(t *testing.T, h *history, cases ...handed) {
	t.Helper()
	last := len(h.puts) - 1
	for what, g := range map[string]*graph.Graph{"nil": graph.New(h.s, nil), "some": h.covers(last / 2), "all": h.covers()} {
		for _, c := range cases {
			q := question{c.mode, []string{"a"}, c.tips, c.nots}
			if got := h.tell(wantRun(t, what, g, h, q)); !reflect.DeepEqual(got, c.want) {
				t.Errorf("%s: %v: %v, want %v", what, q, got, c.want)
			}
		}
	}
}

// P18.1: a merge that is the same as its first parent, as another one, as several, as none, and one whose parent that it is the same as is no commit of the run.
func TestMergesThatAreTheSame(t *testing.T) {
	h := newHistory(t,
		node{nil, texts{"a": 1}},                   // 0
		node{[]int{0}, texts{"a": 2}},              // 1
		node{[]int{0}, texts{"a": 3}},              // 2
		node{[]int{1, 2}, texts{"a": 2}},           // 3: as its first
		node{[]int{1, 2}, texts{"a": 3}},           // 4: as its second
		node{[]int{1, 2}, texts{"a": 4}},           // 5: as none
		node{[]int{1, 2}, nil},                     // 6: as none, without files
		node{[]int{0}, texts{"a": 2}},              // 7: 1 once more
		node{[]int{2, 1, 7}, texts{"a": 2}},        // 8: as two, from the second on
		node{[]int{7, 2, 1}, texts{"a": 2}},        // 9: as two, one of them the first
		node{[]int{3}, texts{"a": 2, "b": 1}},      // 10: as all that it stands above, but for 1
		node{[]int{4, 10}, texts{"a": 7}},          // 11: of merges that aren't kept
		node{[]int{8, 9, 10, 5}, texts{"a": 9}},    // 12: likewise, of four
		node{[]int{11, 12}, texts{"a": 7, "b": 1}}, // 13
	)
	base := func(more map[int][]int) map[int][]int {
		more[0] = nil
		return more
	}
	wantByHand(t, h,
		handed{Default, []int{3}, nil, base(map[int][]int{1: {0}})},
		handed{Full, []int{3}, nil, base(map[int][]int{1: {0}, 2: {0}})},
		handed{Merges, []int{3}, nil, base(map[int][]int{1: {0}, 2: {0}, 3: {1, 2}})},
		handed{Default, []int{4}, nil, base(map[int][]int{2: {0}})},
		handed{Full, []int{4}, nil, base(map[int][]int{1: {0}, 2: {0}})},
		handed{Default, []int{5}, nil, base(map[int][]int{1: {0}, 2: {0}, 5: {1, 2}})},
		handed{Default, []int{6}, nil, base(map[int][]int{1: {0}, 2: {0}, 6: {1, 2}})},
		handed{Full, []int{6}, nil, base(map[int][]int{1: {0}, 2: {0}, 6: {1, 2}})},
		handed{Default, []int{8}, nil, base(map[int][]int{1: {0}})},
		handed{Default, []int{9}, nil, base(map[int][]int{7: {0}})},
		handed{Merges, []int{9}, nil, base(map[int][]int{1: {0}, 2: {0}, 7: {0}, 9: {7, 2, 1}})},

		// The parent that it is the same as is no commit of the run: no edge is followed.
		handed{Default, []int{3}, []int{1}, map[int][]int{}},
		handed{Full, []int{3}, []int{1}, map[int][]int{2: nil}},
		handed{Merges, []int{3}, []int{1}, map[int][]int{2: nil, 3: {2}}},
		handed{Ancestry, []int{3}, []int{1}, map[int][]int{}},
		handed{Default, []int{4}, []int{2}, map[int][]int{}},
		handed{Default, []int{4}, []int{1}, map[int][]int{2: nil}},
		handed{Default, []int{8}, []int{1}, map[int][]int{}},
		handed{Full, []int{8}, []int{1}, map[int][]int{2: nil, 7: nil}},
		handed{Default, []int{8}, []int{7}, map[int][]int{1: nil}},
		handed{Ancestry, []int{5}, []int{1}, map[int][]int{5: nil}},
		handed{Ancestry, []int{5}, []int{0}, map[int][]int{1: nil, 2: nil, 5: {1, 2}}},

		// Through such as aren't kept, each once.
		handed{Default, []int{11}, nil, base(map[int][]int{1: {0}, 2: {0}, 11: {2, 1}})},
		handed{Full, []int{11}, nil, base(map[int][]int{1: {0}, 2: {0}, 11: {1, 2}})},
		handed{Merges, []int{11}, nil, base(map[int][]int{1: {0}, 2: {0}, 3: {1, 2}, 4: {1, 2}, 11: {4, 3}})},
		handed{Default, []int{12}, nil, base(map[int][]int{1: {0}, 2: {0}, 5: {1, 2}, 7: {0}, 12: {1, 7, 5}})},
		handed{Full, []int{12}, nil, base(map[int][]int{1: {0}, 2: {0}, 5: {1, 2}, 7: {0}, 12: {2, 1, 7, 5}})},
		handed{Full, []int{12}, []int{2}, map[int][]int{1: nil, 5: {1}, 7: nil, 12: {1, 7, 5}}},
		handed{Default, []int{13, 12}, []int{2}, map[int][]int{1: nil, 5: {1}, 7: nil, 11: {1}, 12: {1, 7, 5}}},
	)
}

// P18.1: lines, parents one of which is an ancestor of another, and commits that are the same as all below them, down to a root.
func TestLinesAndTriangles(t *testing.T) {
	h := newHistory(t,
		node{nil, texts{"a": 1}},                // 0
		node{[]int{0}, texts{"a": 1, "b": 1}},   // 1: a is the same
		node{[]int{1}, texts{"a": 2}},           // 2
		node{[]int{2}, texts{"a": 2, "b": 2}},   // 3: a is the same
		node{[]int{3}, texts{"a": 1}},           // 4: as it was before
		node{[]int{2, 0}, texts{"a": 3}},        // 5: a triangle
		node{[]int{0, 2}, texts{"a": 3}},        // 6: the other way round
		node{[]int{1, 0}, texts{"a": 4}},        // 7: whose parents come to one
		node{[]int{0, 2}, texts{"a": 2}},        // 8: as the upper one
		node{[]int{2, 0}, texts{"a": 1}},        // 9: as the lower one
		node{nil, texts{"b": 1}},                // 10: a root without a
		node{[]int{10}, texts{"b": 2}},          // 11
		node{[]int{10, 11}, texts{"b": 3}},      // 12
		node{[]int{12, 11, 10}, texts{"b": 3}},  // 13
		node{nil, nil},                          // 14: a root without files
		node{[]int{14}, texts{"a": 1}},          // 15
		node{[]int{15}, nil},                    // 16
		node{[]int{13, 16}, texts{"c": 1}},      // 17: the same as both, for different reasons
		node{[]int{4, 17, 5}, texts{"a": 1}},    // 18
		node{[]int{18}, texts{"a": 9, "c": 11}}, // 19
	)
	line := map[int][]int{0: nil, 2: {0}, 4: {2}}
	wantByHand(t, h,
		handed{Default, []int{4}, nil, line}, handed{Full, []int{4}, nil, line}, handed{Merges, []int{4}, nil, line}, handed{Ancestry, []int{4}, nil, map[int][]int{}},
		handed{Default, []int{4}, []int{0}, map[int][]int{2: nil, 4: {2}}}, handed{Ancestry, []int{4}, []int{0}, map[int][]int{2: nil, 4: {2}}},
		handed{Default, []int{4}, []int{2}, map[int][]int{4: nil}}, handed{Full, []int{3}, []int{2}, map[int][]int{}}, handed{Default, []int{4}, []int{4}, map[int][]int{}},
		handed{Full, []int{5}, nil, map[int][]int{0: nil, 2: {0}, 5: {2, 0}}}, handed{Full, []int{6}, nil, map[int][]int{0: nil, 2: {0}, 6: {0, 2}}},
		handed{Default, []int{7}, nil, map[int][]int{0: nil, 7: {0}}}, handed{Merges, []int{7}, nil, map[int][]int{0: nil, 7: {0}}},
		handed{Default, []int{8}, nil, map[int][]int{0: nil, 2: {0}}}, handed{Merges, []int{8}, nil, map[int][]int{0: nil, 2: {0}, 8: {0, 2}}},
		handed{Default, []int{9}, nil, map[int][]int{0: nil}}, handed{Full, []int{9}, nil, map[int][]int{0: nil, 2: {0}}},
		handed{Default, []int{13}, nil, map[int][]int{}}, handed{Full, []int{13}, nil, map[int][]int{}}, handed{Merges, []int{13}, nil, map[int][]int{12: nil, 13: {12}}},
		handed{Ancestry, []int{13}, []int{10}, map[int][]int{}},
		handed{Full, []int{14}, nil, map[int][]int{}}, handed{Full, []int{16}, nil, map[int][]int{15: nil, 16: {15}}},
		handed{Default, []int{17}, nil, map[int][]int{}}, handed{Full, []int{17}, nil, map[int][]int{15: nil, 16: {15}}},
		handed{Merges, []int{17}, nil, map[int][]int{12: nil, 13: {12}, 15: nil, 16: {15}, 17: {13, 16}}},
		handed{Default, []int{18}, nil, line},
		handed{Full, []int{19}, nil, map[int][]int{0: nil, 2: {0}, 4: {2}, 5: {2, 0}, 15: nil, 16: {15}, 19: {4, 16, 5}}},
		handed{Default, []int{19}, nil, map[int][]int{0: nil, 2: {0}, 4: {2}, 19: {4}}},
		handed{Merges, []int{18}, []int{13, 4}, map[int][]int{5: nil, 15: nil, 16: {15}, 17: {16}, 18: {17, 5}}},
	)
}

// P18.1: what of nots is above another one of them, and below a commit, leads to that other one, though no edge of the run does.
func TestAncestryThroughTheOthers(t *testing.T) {
	h := newHistory(t,
		node{nil, texts{"a": 1}},         // 0
		node{[]int{0}, texts{"a": 2}},    // 1
		node{[]int{1}, texts{"a": 3}},    // 2
		node{[]int{1}, texts{"a": 4}},    // 3
		node{nil, texts{"a": 5}},         // 4
		node{[]int{4, 3}, texts{"a": 6}}, // 5
		node{[]int{4}, texts{"a": 7}},    // 6
		node{[]int{6, 5}, texts{"a": 8}}, // 7
	)
	wantByHand(t, h,
		handed{Ancestry, []int{3}, []int{2}, map[int][]int{}},
		handed{Ancestry, []int{3}, []int{2, 0}, map[int][]int{3: nil}},
		handed{Ancestry, []int{3}, []int{0, 2}, map[int][]int{3: nil}},
		handed{Ancestry, []int{3}, []int{1}, map[int][]int{3: nil}},
		handed{Ancestry, []int{7}, []int{2}, map[int][]int{}},
		handed{Ancestry, []int{7}, []int{2, 0}, map[int][]int{3: nil, 5: {3}, 7: {5}}},
		handed{Ancestry, []int{7}, []int{3}, map[int][]int{5: nil, 7: {5}}},
		handed{Ancestry, []int{7}, []int{4}, map[int][]int{5: nil, 6: nil, 7: {6, 5}}},
		handed{Ancestry, []int{7}, []int{4, 0}, map[int][]int{1: nil, 3: {1}, 5: {3}, 6: nil, 7: {6, 5}}},
		handed{Ancestry, []int{2, 3}, []int{7}, map[int][]int{}},
		handed{Ancestry, []int{2, 3}, []int{7, 1}, map[int][]int{2: nil}},
	)
}

// P18.1, P18.3: all shapes, limits and modes, covered or not.
func TestShapes(t *testing.T) {
	h := shapes(t)
	for what, g := range views(h) {
		wantEach(t, what, g, h, limits())
	}
}

// P18.3: what is kept is the same covered or not, to the last Parent.
func TestCoveredOrNot(t *testing.T) {
	h := shapes(t)
	all := views(h)
	for _, m := range modes() {
		for _, paths := range limits() {
			for n := range h.puts {
				q := question{m, paths, []int{n, 17}, []int{n / 4}}
				want := h.ask(all["nil"], q)
				for what, g := range all {
					if got := h.ask(g, q); !slices.EqualFunc(got, want, alike) {
						t.Errorf("%s: %v: %v, want %v", what, q, h.tell(got), h.tell(want))
					}
				}
			}
		}
	}
}

func alike(a, b Kept) bool { return a.ID == b.ID && slices.Equal(a.Parents, b.Parents) }

func noModes() []Mode {
	return []Mode{0, 5, 6, -1, -4, 256, 257, 1<<32 + 1, math.MaxInt, math.MaxInt - 1, math.MinInt, math.MinInt + 1}
}

// wantRefused: an error, nothing beside it, and nothing read.
func wantRefused(t testing.TB, what string, g *graph.Graph, want api.Errno, m Mode, tips, nots []api.ID) {
	t.Helper()
	g.Reset()
	for _, limit := range []path.Set{{}, limitOf(t, "a"), limitOf(t, "q")} {
		if list, e := Run(g, m, limit, tips, nots); len(list) != 0 || e != want {
			t.Errorf("%s: mode %d of %x, %x: %v, %v, want %v", what, m, tips, nots, list, e, want)
		}
	}
	if g.Visits() != 0 || g.Trees() != 0 {
		t.Errorf("%s: mode %d of %x, %x: read in spite of an error", what, m, tips, nots)
	}
}

// P18.1: what is no mode, alone and beside IDs that are no commit's, which are told behind it.
func TestNoModes(t *testing.T) {
	h := shapes(t)
	good := h.of(19, 3)
	for what, g := range views(h) {
		for _, m := range noModes() {
			wantRefused(t, what, g, api.ErrRange, m, nil, nil)
			wantRefused(t, what, g, api.ErrRange, m, good, nil)
			wantRefused(t, what, g, api.ErrRange, m, good, good)
			for _, id := range h.strangers() {
				wantRefused(t, what, g, api.ErrRange, m, []api.ID{id}, nil)
				wantRefused(t, what, g, api.ErrRange, m, good, []api.ID{id})
				wantRefused(t, what, g, api.ErrRange, m, []api.ID{id}, []api.ID{id})
			}
		}
	}
}

// P18.1: an ID of no commit, at each place among tips and among nots.
func TestMissing(t *testing.T) {
	h := shapes(t)
	good := h.of(19, 3, 0)
	for what, g := range views(h) {
		for _, id := range h.strangers() {
			for _, bad := range [][]api.ID{{id}, {id, id}, {id, good[0]}, {good[0], id}, {good[1], id, good[0]}, append(slices.Clone(good), id)} {
				for _, m := range modes() {
					wantRefused(t, what, g, api.ErrMissing, m, bad, nil)
					wantRefused(t, what, g, api.ErrMissing, m, bad, good)
					wantRefused(t, what, g, api.ErrMissing, m, nil, bad)
					wantRefused(t, what, g, api.ErrMissing, m, good, bad)
					wantRefused(t, what, g, api.ErrMissing, m, bad, bad)
				}
			}
		}
	}
}

// A store without commits has none that could be handed in.
func TestNoCommits(t *testing.T) {
	h := newHistory(t)
	for what, g := range map[string]*graph.Graph{"nil": graph.New(h.s, nil), "none": graph.New(h.s, h.c)} {
		for _, m := range modes() {
			if list, e := Run(g, m, path.Set{}, nil, nil); len(list) != 0 || e != api.OK {
				t.Errorf("%s: mode %d: %v, %v", what, m, list, e)
			}
			for _, id := range h.strangers() {
				wantRefused(t, what, g, api.ErrMissing, m, []api.ID{id}, nil)
				wantRefused(t, what, g, api.ErrMissing, m, nil, []api.ID{id})
			}
		}
		for _, m := range noModes() {
			wantRefused(t, what, g, api.ErrRange, m, nil, nil)
		}
	}
}

// Rule 2: no tips and no nots may be nil or empty; a path set of no paths is the zero one.
func TestNone(t *testing.T) {
	h := shapes(t)
	nones := [][]api.ID{nil, {}, h.of(0, 1)[:0]}
	for what, g := range views(h) {
		for _, m := range modes() {
			for _, none := range nones {
				for _, nots := range append(nones, h.of(3), h.of(19, 0)) {
					if list, e := Run(g, m, limitOf(t, "a"), none, nots); len(list) != 0 || e != api.OK {
						t.Errorf("%s: mode %d of no tips: %v, %v", what, m, list, e)
					}
				}
				want := h.simplified(question{m, nil, []int{19}, nil})
				for _, limit := range []path.Set{{}, limitOf(t), limitOf(t, []string{}...)} {
					if list, e := Run(g, m, limit, h.of(19), none); e != api.OK || !reflect.DeepEqual(h.tell(list), want.kept) {
						t.Errorf("%s: mode %d without paths and nots: %v, %v", what, m, h.tell(list), e)
					}
				}
			}
		}
	}
}

// P18.1: the same tip, the same of nots, several times; tips of which one is from another; a tip that is one of nots; nots that no tip is from, and that are from no tip.
func TestTipsAndNots(t *testing.T) {
	h := shapes(t)
	for what, g := range views(h) {
		for _, paths := range [][]string{nil, {"a"}, {"c", "d"}, {"q"}} {
			for n := range h.puts {
				once := map[Mode][]Kept{}
				for _, m := range modes() {
					once[m] = wantRun(t, what, g, h, question{m, paths, []int{n}, []int{2}})
					for _, q := range []question{
						{m, paths, []int{n, n}, []int{2}},
						{m, paths, []int{n, 2, n, 2}, []int{2, 2, 2}},
						{m, paths, slices.Repeat([]int{n}, 40), slices.Repeat([]int{2}, 40)},
					} {
						if again := wantRun(t, what, g, h, q); !slices.EqualFunc(again, once[m], alike) {
							t.Errorf("%s: %v: %v, once: %v", what, q, h.tell(again), h.tell(once[m]))
						}
					}
					if gone := wantRun(t, what, g, h, question{m, paths, []int{n}, []int{4, n}}); len(gone) != 0 {
						t.Errorf("%s: mode %d of %d without it: %v", what, m, n, h.tell(gone))
					}
				}
				wantModes(t, what, g, h, paths, []int{n, 5, 0}, nil)
				wantModes(t, what, g, h, paths, []int{7, n, 15}, []int{n, 1})
				// The root 20 is from no tip but itself and 21, and no other tip is from it.
				wantModes(t, what, g, h, paths, []int{n}, []int{20})
				wantModes(t, what, g, h, paths, []int{n, 3}, []int{8, 20})
			}
		}
	}
}

// line is commits one above the other, whose files may change.
func line(t testing.TB, r *rand.Rand, n int) *history {
	h := newHistory(t)
	files := texts{}
	for k := range n {
		if r.Intn(3) > 0 {
			files = edit(r, files)
		}
		if k == 0 {
			h.commit(files)
		} else {
			h.commit(files, k-1)
		}
	}
	return h
}

// P18.3: on a line Default and Full keep just what touches the path set, each above the next one.
func TestLines(t *testing.T) {
	r := rand.New(rand.NewSource(3))
	some := 0
	for range 12 {
		h := line(t, r, 30)
		for what, g := range map[string]*graph.Graph{"nil": graph.New(h.s, nil), "some": h.covers(17), "all": h.covers()} {
			for range 12 {
				paths := someNames(r)
				tip, not := r.Intn(30), r.Intn(30)
				for _, nots := range [][]int{nil, {not}} {
					touching, e := change.Touching(g, limitOf(t, paths...), h.of(tip)...)
					h.must(e)
					want := h.numbers(touching)
					slices.Sort(want)
					if nots != nil {
						want = slices.DeleteFunc(want, func(n int) bool { return n <= not })
					}
					for _, m := range []Mode{Default, Full, Merges} {
						got := h.tell(wantRun(t, what, g, h, question{m, paths, []int{tip}, nots}))
						if len(got) != len(want) {
							t.Errorf("%s: mode %d, %v, %d, %v: %v, want %v", what, m, paths, tip, nots, got, want)
							continue
						}
						for at, n := range want {
							below := want[max(0, at-1):at]
							if parents, there := got[n]; !there || !slices.Equal(parents, below) {
								t.Errorf("%s: mode %d, %v, %d, %v: %v, want %v", what, m, paths, tip, nots, got, want)
							}
						}
					}
					some += len(want)
				}
			}
		}
	}
	if some < 1000 {
		t.Error("met too seldom to tell much:", some)
	}
}

// P18.1, P18.3: all histories of up to four commits, whatever their parents and the order of these, with a file of two contents (of four commits: of one) or without.
func TestAllSmallHistories(t *testing.T) {
	at := 0
	for _, size := range []struct{ commits, contents int }{{1, 3}, {2, 3}, {3, 3}, {4, 2}} {
		for _, shape := range shapesOf(size.commits) {
			for _, files := range filesOf(size.commits, size.contents) {
				h := newHistory(t)
				for n, parents := range shape {
					h.commit(files[n], parents...)
				}
				g := graph.New(h.s, nil)
				switch at++; at % 3 {
				case 1:
					g = h.covers()
				case 2:
					g = h.covers(size.commits / 2)
				}
				wantSmall(t, fmt.Sprint(shape, files), g, h)
				if t.Failed() {
					return
				}
			}
		}
	}
}

// wantSmall asks with the last commit as the tip, alone and beside the one ahead of it, and with each choice of the others as nots.
func wantSmall(t testing.TB, what string, g *graph.Graph, h *history) {
	t.Helper()
	last := len(h.puts) - 1
	for bits := range 1 << last {
		var nots []int
		for n := range last {
			if bits>>n&1 == 1 {
				nots = append(nots, n)
			}
		}
		wantModes(t, what, g, h, []string{"a"}, []int{last}, nots)
		if bits%3 == 0 {
			wantModes(t, what, g, h, []string{"a"}, h.all()[last/2:], nots)
		}
	}
}

// shapesOf: all choices of parents, in all orders, of so many commits.
func shapesOf(n int) [][][]int {
	if n == 0 {
		return [][][]int{nil}
	}
	var all [][][]int
	for _, below := range shapesOf(n - 1) {
		for _, parents := range orders(n - 1) {
			all = append(all, append(slices.Clone(below), parents))
		}
	}
	return all
}

// orders: all lists of unlike numbers below n.
func orders(n int) [][]int {
	all := [][]int{nil}
	for at := 0; at < len(all); at++ {
		for next := range n {
			if !slices.Contains(all[at], next) {
				all = append(all, append(slices.Clone(all[at]), next))
			}
		}
	}
	return all
}

// filesOf: for so many commits all choices of a file, 0 being none.
func filesOf(n, contents int) [][]texts {
	if n == 0 {
		return [][]texts{nil}
	}
	var all [][]texts
	for _, others := range filesOf(n-1, contents) {
		for content := range contents {
			files := texts{"b": n}
			if content > 0 {
				files["a"] = content
			}
			all = append(all, append(slices.Clone(others), files))
		}
	}
	return all
}

// P18.3, P0.2: on a line that is covered the files of the few are read whose filters don't say that the path is the same.
func TestReadsOfALine(t *testing.T) {
	h := newHistory(t, node{nil, texts{"a": 1, "b": 1}})
	for n := 1; n < 240; n++ {
		files := texts{"a": n/2 + 1, "b": 1}
		if n >= 100 {
			files["b"] = 2
		}
		h.commit(files, n-1)
	}
	for what, g := range map[string]*graph.Graph{"nil": graph.New(h.s, nil), "half": h.covers(120), "all": h.covers()} {
		for _, m := range modes() {
			for _, p := range []string{"a", "b", "c", "a/x", "b.", "d"} {
				wantRun(t, what, g, h, question{m, []string{p}, []int{239}, []int{0}})
			}
		}
		g.Reset()
		if got := h.tell(h.ask(g, question{Default, []string{"b"}, []int{239}, nil})); !reflect.DeepEqual(got, map[int][]int{0: nil, 100: {0}}) {
			t.Error(what, got)
		}
		if g.Covered() && g.Trees() > 60 {
			t.Errorf("%s: the files of %d commits were read for two", what, g.Trees())
		}
	}
}

// P18.1: lines of about, and of more than, MaxIndexed commits, of which none, or few, count.
func TestLongLines(t *testing.T) {
	for _, n := range []int{249, 250, 251, 300} {
		h := newHistory(t, node{nil, texts{"a": 1}})
		for k := 1; k < n; k++ {
			h.commit(texts{"a": 1 + k/100, "b": k}, k-1)
		}
		side := h.commit(texts{"a": 7}, n/2)
		top := h.commit(texts{"a": 7, "b": 7}, n-1, side)
		for what, g := range map[string]*graph.Graph{"nil": graph.New(h.s, nil), "some": h.covers(n - 5), "all": h.covers()} {
			for _, paths := range [][]string{nil, {"a"}, {"q"}} {
				wantModes(t, fmt.Sprint(n, what), g, h, paths, []int{top}, nil)
				wantModes(t, fmt.Sprint(n, what), g, h, paths, []int{side, n - 1}, []int{n / 3})
				wantModes(t, fmt.Sprint(n, what), g, h, paths, []int{top}, []int{n - 1})
			}
			if got := h.tell(h.ask(g, question{Full, []string{"a"}, []int{99}, nil})); !reflect.DeepEqual(got, map[int][]int{0: nil}) {
				t.Error(n, what, got)
			}
			if got := h.ask(g, question{Full, []string{"a"}, []int{99}, []int{1}}); len(got) != 0 {
				t.Error(n, what, h.tell(got))
			}
		}
	}
}

// Commits that are put behind the graph's making are there, and not covered.
func TestPutBehindTheGraph(t *testing.T) {
	h := shapes(t)
	all := views(h)
	h.commit(texts{"a": 1, "q": 1}, 19)
	h.commit(texts{"a": 1, "b": 1, "d/x": 1}, 1)
	h.commit(nil, 22, 23)
	h.commit(texts{"q": 1}, 24, 21)
	for what, g := range all {
		wantEach(t, what, g, h, [][]string{nil, {"a"}, {"q"}})
	}
	wantEach(t, "covered later", h.covers(), h, limits())
}

// Rule 4: what is asked in between, written or dropped changes no answer.
func TestAskedInBetween(t *testing.T) {
	h := shapes(t)
	h.write(9)
	g := graph.New(h.s, h.c)
	q := question{Full, []string{"a", "d"}, []int{19}, []int{8}}
	want := h.ask(g, q)
	for step, do := range []func(){
		func() {},
		func() { h.write() },
		func() { h.must(h.c.Drop(1)) },
		func() { h.must(h.s.SetRef("main", h.puts[3].id)) },
		func() { h.commit(texts{"a": 9}, 19) },
		func() { h.must(h.c.Drop(1)) },
		func() { g.Parents(h.puts[3].id); g.Content(h.puts[3].id) },
		func() { h.ask(g, question{Default, nil, []int{21}, nil}) },
		func() { h.ask(g, question{Ancestry, []string{"a"}, []int{19}, []int{8}}) },
		func() { Run(g, 9, path.Set{}, nil, nil); Run(g, Full, path.Set{}, []api.ID{1}, nil) },
		g.Reset,
	} {
		do()
		if got := h.ask(g, q); !slices.EqualFunc(got, want, alike) {
			t.Errorf("step %d: %v", step, h.tell(got))
		}
	}
}

// The store, the chain and the disk are only asked.
func TestNothingIsWritten(t *testing.T) {
	h := shapes(t)
	h.write(3)
	tell := func() string {
		var b strings.Builder
		for _, name := range h.d.Names() {
			file, _ := h.d.Read(name)
			fmt.Fprintln(&b, name, file)
		}
		fmt.Fprintln(&b, h.d.Writes(), h.s.Commits(), h.s.Refs(), h.s.Tags(), h.c.Names(), h.c.Sizes(), h.c.Rows())
		return b.String()
	}
	was := tell()
	wantEach(t, "some", graph.New(h.s, h.c), h, [][]string{nil, {"a"}})
	if tell() != was {
		t.Error("something has changed")
	}
}

// whole is a list with its spare room.
func whole[T any](list []T) []T { return list[:cap(list)] }

// roomy lays a list into a longer one, whose spare room has a mark in each place.
func roomy[T any](list []T, mark T) []T {
	all := slices.Repeat([]T{mark}, len(list)+64)
	copy(all, list)
	return all[:len(list)]
}

// fill writes into all of a list, and into its spare room.
func fill[T any](list []T, mark T) {
	for i := range whole(list) {
		whole(list)[i] = mark
	}
}

// copyOf is what is kept as memory of its own.
func copyOf(list []Kept) []Kept {
	var made []Kept
	for _, k := range list {
		made = append(made, Kept{k.ID, slices.Clone(k.Parents)})
	}
	return made
}

// wantMemory: the answer shares none with what is handed in, with another answer, or among its own lists; what is handed in isn't changed.
func wantMemory(t testing.TB, what string, g *graph.Graph, h *history, m Mode, tipNumbers, notNumbers []int) {
	t.Helper()
	what = fmt.Sprint(what, ": mode ", m, " of ", tipNumbers, notNumbers)
	limit := limitOf(t, "d/x", "a")
	tips, nots := roomy(h.of(tipNumbers...), 77), roomy(h.of(notNumbers...), 78)
	wereTips, wereNots := slices.Clone(whole(tips)), slices.Clone(whole(nots))
	first, e := Run(g, m, limit, tips, nots)
	h.must(e)
	if !slices.Equal(whole(tips), wereTips) || !slices.Equal(whole(nots), wereNots) || !slices.Equal(limit.Paths(), []string{"a", "d/x"}) {
		t.Error(what, "changes what is handed in")
	}
	want := copyOf(first)
	second, _ := Run(g, m, limit, tips, nots)
	for at := range first {
		fill(first[at].Parents, 66)
		if !slices.EqualFunc(first[at+1:], want[at+1:], alike) {
			t.Error(what, "shares memory among its Parents")
		}
	}
	fill(first, Kept{ID: 66})
	fill(tips, 66)
	fill(nots, 66)
	third, _ := Run(g, m, limit, h.of(tipNumbers...), h.of(notNumbers...))
	if !slices.EqualFunc(second, want, alike) || !slices.EqualFunc(third, want, alike) {
		t.Error(what, "shares memory")
	}
	if slices.Contains(g.Read(), 66) || slices.Contains(g.Opened(), 66) {
		t.Error(what, "answers the graph's memory")
	}
}

// Rule 3: answers are new memory, of which no two lists share any; what is handed in is not changed, its spare room neither, and not kept.
func TestMemory(t *testing.T) {
	h := shapes(t)
	for what, g := range views(h) {
		for _, m := range modes() {
			wantMemory(t, what, g, h, m, nil, nil)
			wantMemory(t, what, g, h, m, []int{19}, nil)
			wantMemory(t, what, g, h, m, []int{19, 17, 17, 0}, []int{8, 1})
			wantMemory(t, what, g, h, m, []int{16, 17}, []int{0, 0})
			wantMemory(t, what, g, h, m, []int{8}, nil)
		}
	}
}

// Rule 3: kept commits that stand above the same ones that aren't kept tell alike Parents, each in a list of its own.
func TestMemoryAboveTheSame(t *testing.T) {
	h := newHistory(t,
		node{nil, texts{"a": 1}},                       // 0
		node{[]int{0}, texts{"a": 2}},                  // 1
		node{[]int{0}, texts{"a": 3}},                  // 2
		node{[]int{1, 2}, texts{"a": 2, "b": 1}},       // 3: not kept, but in the mode Merges
		node{[]int{3}, texts{"a": 2}},                  // 4: nor this one
		node{[]int{4}, texts{"a": 4}},                  // 5
		node{[]int{4}, texts{"a": 5}},                  // 6
		node{[]int{4}, texts{"a": 6}},                  // 7
		node{[]int{4, 3}, texts{"a": 7}},               // 8
		node{[]int{5, 6, 7, 8}, texts{"a": 4, "b": 1}}, // 9
	)
	for what, g := range map[string]*graph.Graph{"nil": graph.New(h.s, nil), "all": h.covers()} {
		for _, m := range modes() {
			wantMemory(t, what, g, h, m, []int{5, 6, 7, 8, 9}, nil)
			wantMemory(t, what, g, h, m, []int{9}, []int{0})
			wantMemory(t, what, g, h, m, []int{9, 8, 7, 6, 5}, []int{2})
		}
		if got := h.tell(h.ask(g, question{Full, []string{"a"}, []int{9}, []int{0}})); !reflect.DeepEqual(got, map[int][]int{1: nil, 2: nil, 5: {1, 2}, 6: {1, 2}, 7: {1, 2}, 8: {1, 2}}) {
			t.Error(what, got)
		}
	}
}

// P18.2: IDs, of none and of many, in the order in which they are handed in, as often as they are.
func TestIDs(t *testing.T) {
	for _, none := range [][]Kept{nil, {}, make([]Kept, 0, 5)} {
		if ids := IDs(none...); len(ids) != 0 {
			t.Error(ids)
		}
	}
	if ids := IDs(); len(ids) != 0 {
		t.Error(ids)
	}
	if ids := IDs(Kept{ID: 7, Parents: []api.ID{9, 8}}); !slices.Equal(ids, []api.ID{7}) {
		t.Error(ids)
	}
	if ids := IDs(Kept{ID: 7}, Kept{}, Kept{ID: math.MaxUint64, Parents: []api.ID{1}}, Kept{ID: 7}, Kept{ID: 1}, Kept{}); !slices.Equal(ids, []api.ID{7, 0, math.MaxUint64, 7, 1, 0}) {
		t.Error(ids)
	}
	var many []Kept
	var want []api.ID
	for n := range 100000 {
		id := api.ID(n * 7919 % 100003)
		many, want = append(many, Kept{ID: id, Parents: []api.ID{1}}), append(want, id)
	}
	if ids := IDs(many...); !slices.Equal(ids, want) {
		t.Error("of many:", len(ids))
	}
	h := shapes(t)
	list := h.ask(graph.New(h.s, nil), question{Merges, nil, []int{19}, nil})
	ids := IDs(list...)
	if len(ids) != len(list) || len(ids) < 10 || !slices.IsSorted(ids) {
		t.Error(h.numbers(ids))
	}
}

// Rule 3, of IDs.
func TestMemoryOfIDs(t *testing.T) {
	list := roomy([]Kept{{ID: 3, Parents: []api.ID{1}}, {ID: 2}, {ID: 3}}, Kept{ID: 77})
	was := copyOf(whole(list))
	first, second := IDs(list...), IDs(list...)
	fill(first, 66)
	if !slices.EqualFunc(whole(list), was, alike) {
		t.Error("what is handed in is changed:", list)
	}
	fill(list, Kept{ID: 66})
	if !slices.Equal(second, []api.ID{3, 2, 3}) {
		t.Error("shared:", second)
	}
}

// P0.1: layers that were spoilt, and a chain that a cut left, change no answer; a power that is gone neither.
func TestSpoiltLayersAndCuts(t *testing.T) {
	h := shapes(t)
	for _, n := range []int{0, 3, 14} {
		h.write(n)
	}
	h.write()
	first := h.d
	some := [][]string{nil, {"a"}, {"q"}}
	for _, name := range append(h.c.Names(), "chain") {
		file, _ := first.Read(name)
		for at := 0; at < len(file); at += 1 + len(file)/4 {
			h.d = first.Clone()
			h.must(h.d.Spoil(name, at, 4))
			h.open()
			wantEach(t, "spoilt "+name, graph.New(h.s, h.c), h, some)
		}
	}
	for after := range 7 {
		h.d = first.Clone()
		h.open()
		g := graph.New(h.s, h.c)
		h.must(h.d.Cut(after, 10))
		// Seven raw writes: the layer's file, the two of the swap, and four that go.
		if e := h.c.Merge(4); e != api.ErrDead {
			t.Fatal(after, e)
		}
		wantEach(t, fmt.Sprint("dead behind ", after), g, h, some)
		h.d.Restart()
		h.open()
		wantEach(t, fmt.Sprint("restarted behind ", after), graph.New(h.s, h.c), h, some)
	}
}

func pick[T any](r *rand.Rand, list []T) T { return list[r.Intn(len(list))] }

// names are such as lead to one another, and some beside them.
func names() []string {
	return []string{"a", "a/x", "a/x/y", "b", "b/c/d", "c", "c.", "d/1", "d/2", "d/3"}
}

func someNames(r *rand.Rand) []string {
	var paths []string
	for range pick(r, []int{0, 1, 1, 1, 2, 3, 16}) {
		paths = append(paths, pick(r, append(names(), "q", "b/q", "d")))
	}
	return paths
}

// edit is files with some changes: a path that comes takes the place of what it leads to, and of what leads to it.
func edit(r *rand.Rand, files texts) texts {
	made := texts{}
	for p, n := range files {
		made[p] = n
	}
	for range pick(r, []int{0, 1, 1, 1, 2, 12}) {
		p := pick(r, names())
		delete(made, p)
		if r.Intn(4) == 0 {
			continue
		}
		for q := range made {
			if strings.HasPrefix(q, p+"/") || strings.HasPrefix(p, q+"/") {
				delete(made, q)
			}
		}
		made[p] = 1 + r.Intn(2)
	}
	return made
}

// grow puts a commit above some late ones, or a root; its files are those of one of its parents, or near to them.
func (h *history) grow(r *rand.Rand) {
	n := len(h.puts)
	var parents []int
	for _, k := range r.Perm(min(n, 6))[:min(n, pick(r, []int{0, 1, 1, 1, 1, 2, 2, 2, 3, 5}))] {
		parents = append(parents, n-1-k)
	}
	files := texts{}
	if len(parents) > 0 {
		files = h.puts[pick(r, parents)].files
	}
	if len(parents) < 2 || r.Intn(2) == 0 {
		files = edit(r, files)
	}
	h.commit(files, parents...)
}

func someNumbers(r *rand.Rand, n int, counts ...int) []int {
	var list []int
	for range pick(r, counts) {
		list = append(list, r.Intn(n))
	}
	return list
}

// P18.1, P18.3: random histories, chains and questions, against the words of the chapter.
func TestRandom(t *testing.T) {
	r := rand.New(rand.NewSource(18))
	count := map[string]int{}
	for range 60 {
		h := newHistory(t)
		for range 5 + r.Intn(35) {
			h.grow(r)
		}
		for range 3 {
			if r.Intn(3) > 0 {
				h.write(r.Intn(len(h.puts)), r.Intn(len(h.puts)))
			}
		}
		if r.Intn(3) == 0 {
			h.write()
		}
		g := graph.New(h.s, h.c)
		if r.Intn(5) == 0 {
			g = graph.New(h.s, nil)
		}
		for range pick(r, []int{0, 0, 1, 2}) {
			h.grow(r)
		}
		for range 40 {
			n := len(h.puts)
			paths := someNames(r)
			tips, nots := append(someNumbers(r, n, 0, 1, 3), n-1-r.Intn(3)), someNumbers(r, n, 0, 1, 1, 2, 5)
			wantModes(t, "any", g, h, paths, tips, nots)
			h.tally(count, paths, tips, nots)
		}
		if t.Failed() {
			t.FailNow()
		}
	}
	for _, what := range []string{"default is less", "full is less", "ancestry is less", "ancestry keeps", "not all visited", "several parents", "none kept", "same as one that is no commit of the run"} {
		if count[what] < 60 {
			t.Error("met too seldom to tell much:", what, count)
		}
	}
}

// tally counts what a question was good for.
func (h *history) tally(count map[string]int, paths []string, tips, nots []int) {
	told := map[Mode]plain{}
	for _, m := range modes() {
		told[m] = h.simplified(question{m, paths, tips, nots})
	}
	note := func(what string, is bool) {
		if is {
			count[what]++
		}
	}
	note("default is less", len(told[Default].kept) < len(told[Full].kept))
	note("full is less", len(told[Full].kept) < len(told[Merges].kept))
	note("ancestry is less", len(told[Ancestry].kept) > 0 && len(told[Ancestry].kept) < len(told[Full].kept))
	note("ancestry keeps", len(told[Ancestry].kept) > 0)
	note("none kept", len(told[Full].kept) == 0)
	note("not all visited", !slices.Equal(told[Default].visited, told[Full].visited))
	for _, parents := range told[Full].kept {
		note("several parents", len(parents) > 2)
	}
	for n, in := range told[Full].visited {
		sames := h.sames(n, paths)
		if parents := h.puts[n].parents; in && len(parents) > 1 && len(sames) > 0 {
			note("same as one that is no commit of the run", !told[Full].visited[parents[sames[0]]])
		}
	}
}

// Rule 5: as many commits as a disk holds end soon: a line of which none counts, behind the root.
func TestManyInALine(t *testing.T) {
	h := newHistory(t, node{nil, texts{"a": 1}})
	h.tree(texts{"a": 2})
	for h.tryCommit(texts{"a": 1}, len(h.puts)-1) == api.OK {
	}
	n := len(h.puts)
	if n < 3000 {
		t.Fatal(n)
	}
	long := h.of(slices.Repeat([]int{n - 1, n - 1, n / 2}, 20000)...)
	for what, g := range map[string]*graph.Graph{"nil": graph.New(h.s, nil), "some": h.covers(n / 2)} {
		for _, m := range []Mode{Default, Full, Merges} {
			list, e := Run(g, m, limitOf(t, "a"), long, nil)
			if e != api.OK || len(list) != 1 || list[0].ID != h.puts[0].id || len(list[0].Parents) != 0 {
				t.Error(what, m, len(list), e)
			}
		}
		if list, e := Run(g, Ancestry, limitOf(t, "a"), long, h.of(slices.Repeat([]int{0, 9}, 20000)...)); e != api.OK || len(list) != 0 {
			t.Error(what, len(list), e)
		}
		// As many of nots as commits.
		if list, e := Run(g, Ancestry, path.Set{}, h.of(h.all()...), h.of(h.all()[:n-1]...)); e != api.OK || len(list) != 0 {
			t.Error(what, len(list), e)
		}
	}
}

// Rule 5: ways whose number doubles with each of many merges are not gone one by one.
func TestManyWays(t *testing.T) {
	h := newHistory(t, node{nil, texts{"a": 1}})
	for range 600 {
		below := len(h.puts) - 1
		h.commit(texts{"a": 1, "b": 1}, below)
		h.commit(texts{"a": 1}, below)
		h.commit(texts{"a": 1}, below+1, below+2)
	}
	top := h.commit(texts{"a": 2}, len(h.puts)-1)
	for what, g := range map[string]*graph.Graph{"nil": graph.New(h.s, nil), "all": h.covers()} {
		for _, m := range []Mode{Default, Full} {
			if got := h.tell(h.ask(g, question{m, []string{"a"}, []int{top}, nil})); !reflect.DeepEqual(got, map[int][]int{0: nil, top: {0}}) {
				t.Error(what, m, got)
			}
		}
		want := map[int][]int{0: nil, top: {top - 1}}
		for n := 3; n < top; n += 3 {
			want[n] = []int{n - 3}
		}
		if got := h.tell(h.ask(g, question{Merges, []string{"a"}, []int{top}, nil})); !reflect.DeepEqual(got, want) {
			t.Error(what, "Merges:", len(got))
		}
		if got := h.tell(h.ask(g, question{Ancestry, []string{"a"}, []int{top}, []int{0}})); !reflect.DeepEqual(got, map[int][]int{top: nil}) {
			t.Error(what, "Ancestry:", got)
		}
	}
}

// Rule 5: long lists of first kept ones, each told once, in the order of the edges.
func TestManyFirstKept(t *testing.T) {
	h := newHistory(t, node{nil, texts{"a": 1}})
	want := []int{0}
	for n := range 700 {
		below := len(h.puts) - 1
		side := h.commit(texts{"a": 2 + n%2}, 0)
		h.commit(texts{"a": 1}, below, side)
		want = append(want, side)
	}
	for range 700 {
		h.commit(texts{"a": 1}, len(h.puts)-1)
	}
	below := len(h.puts) - 1
	near := h.commit(texts{"a": 4}, below)
	top := h.commit(texts{"a": 5}, below-1, near, below-2, below)
	g := graph.New(h.s, nil)
	got := h.tell(h.ask(g, question{Full, []string{"a"}, []int{top}, nil}))
	if len(got) != 703 || !slices.Equal(got[near], want) || !slices.Equal(got[top], append(want, near)) {
		t.Error(len(got), len(got[near]), len(got[top]))
	}
	if got := h.tell(h.ask(g, question{Default, []string{"a"}, []int{top}, nil})); !reflect.DeepEqual(got, map[int][]int{0: nil, near: {0}, top: {0, near}}) {
		t.Error(got)
	}
}

// The way that the chapter asks for.
func TestWays(t *testing.T) {
	if !reflect.TypeOf(IDs).IsVariadic() {
		t.Error("IDs isn't variadic")
	}
}
