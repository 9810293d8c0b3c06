package tree

import (
	"fmt"
	"math"
	"math/rand"
	"regexp"
	"slices"
	"strings"
	"testing"

	"forebear/api"
	"forebear/path"
)

// What a path is, by the words of chapter 3.
var pathForm = regexp.MustCompile(`\A[a-z0-9_.]{1,16}(/[a-z0-9_.]{1,16}){0,5}\z`)

func plainUnder(p, dir string) bool { return p == dir || strings.HasPrefix(p, dir+"/") }

// plainTreeError is object.Tree's error by the words of chapter 8, each two entries held against each other.
func plainTreeError(entries []api.Entry) api.Errno {
	if len(entries) > 64 {
		return api.ErrLong
	}
	for _, x := range entries {
		if !pathForm.MatchString(x.Path) {
			return api.ErrName
		}
	}
	for i, x := range entries {
		for j, y := range entries {
			if i < j && !(x.Path < y.Path) || i != j && plainUnder(x.Path, y.Path) {
				return api.ErrTree
			}
		}
	}
	return api.OK
}

func isTree(entries []api.Entry) bool {
	return plainTreeError(entries) == api.OK && !slices.ContainsFunc(entries, func(x api.Entry) bool { return x.Blob == 0 })
}

// plainBlob is 0 where the path is not.
func plainBlob(entries []api.Entry, p string) api.ID {
	for _, x := range entries {
		if x.Path == p {
			return x.Blob
		}
	}
	return 0
}

func plainHas(limit []string, p string) bool {
	for _, dir := range limit {
		if plainUnder(p, dir) {
			return true
		}
	}
	return len(limit) == 0
}

// plainPaths is the paths of both trees, rising, each once.
func plainPaths(a, b []api.Entry) []string {
	var paths []string
	for _, x := range slices.Concat(a, b) {
		if !slices.Contains(paths, x.Path) {
			paths = append(paths, x.Path)
		}
	}
	slices.Sort(paths)
	return paths
}

func plainDiff(a, b []api.Entry, limit ...string) []Change {
	var changes []Change
	for _, p := range plainPaths(a, b) {
		if plainHas(limit, p) && plainBlob(a, p) != plainBlob(b, p) {
			changes = append(changes, Change{Path: p, Old: plainBlob(a, p), New: plainBlob(b, p)})
		}
	}
	return changes
}

// plainMoves goes through all paths of a for each path of b, and asks the moves so far which were taken.
func plainMoves(a, b []api.Entry) []Move {
	var moves []Move
	for _, to := range plainPaths(b, nil) {
		if plainBlob(a, to) != 0 {
			continue
		}
		for _, from := range plainPaths(a, nil) {
			taken := slices.ContainsFunc(moves, func(m Move) bool { return m.From == from })
			if plainBlob(b, from) == 0 && plainBlob(a, from) == plainBlob(b, to) && !taken {
				moves = append(moves, Move{From: from, To: to})
				break
			}
		}
	}
	return moves
}

func plainOrigin(a, b []api.Entry, p string) (string, bool) {
	if plainBlob(b, p) == 0 {
		return "", false
	}
	if plainBlob(a, p) != 0 {
		return p, true
	}
	for _, m := range plainMoves(a, b) {
		if m.To == p {
			return m.From, true
		}
	}
	return "", false
}

func plainTouched(changes []Change) []string {
	var touched []string
	for _, c := range changes {
		names := strings.Split(c.Path, "/")
		for n := range names {
			if part := strings.Join(names[:n+1], "/"); !slices.Contains(touched, part) {
				touched = append(touched, part)
			}
		}
	}
	slices.Sort(touched)
	return touched
}

// plainApply asks of each path that is spoken of what is there in the end.
func plainApply(a []api.Entry, changes []Change) ([]api.Entry, api.Errno) {
	all := plainPaths(a, nil)
	for i, c := range changes {
		for _, earlier := range changes[:i] {
			if earlier.Path == c.Path {
				return nil, api.ErrForm
			}
		}
		if plainBlob(a, c.Path) != c.Old {
			return nil, api.ErrForm
		}
		if !slices.Contains(all, c.Path) {
			all = append(all, c.Path)
		}
	}
	slices.Sort(all)
	var made []api.Entry
	for _, p := range all {
		blob := plainBlob(a, p)
		for _, c := range changes {
			if c.Path == p {
				blob = c.New
			}
		}
		if blob != 0 {
			made = append(made, api.Entry{Path: p, Blob: blob})
		}
	}
	if e := plainTreeError(made); e != api.OK {
		return nil, e
	}
	return made, api.OK
}

// short tells a long thing in few signs.
func short(x any) string {
	s := fmt.Sprintf("%+q", fmt.Sprintf("%v", x))
	if len(s) > 300 {
		return fmt.Sprintf("%s .. (%d signs)", s[:300], len(s))
	}
	return s
}

// files makes entries of texts such as "a 1": a path and a number.
func files(list ...string) []api.Entry {
	var entries []api.Entry
	for _, s := range list {
		var x api.Entry
		if _, err := fmt.Sscan(s, &x.Path, &x.Blob); err != nil {
			panic(s)
		}
		entries = append(entries, x)
	}
	return entries
}

// tree is files that make one.
func tree(t *testing.T, list ...string) []api.Entry {
	t.Helper()
	entries := files(list...)
	if !isTree(entries) {
		t.Fatalf("a test's files are no tree: %q", list)
	}
	return entries
}

// changesOf makes changes of texts such as "a 1 2": a path, what was there, and what comes.
func changesOf(list ...string) []Change {
	var changes []Change
	for _, s := range list {
		var c Change
		if _, err := fmt.Sscan(s, &c.Path, &c.Old, &c.New); err != nil {
			panic(s)
		}
		changes = append(changes, c)
	}
	return changes
}

// movesOf makes moves of texts such as "a b": from where, and to where.
func movesOf(list ...string) []Move {
	var moves []Move
	for _, s := range list {
		var m Move
		if _, err := fmt.Sscan(s, &m.From, &m.To); err != nil {
			panic(s)
		}
		moves = append(moves, m)
	}
	return moves
}

func limitOf(t *testing.T, paths ...string) path.Set {
	t.Helper()
	limit, e := path.Limit(paths...)
	if e != api.OK {
		t.Fatalf("a test's path set is none: %q", paths)
	}
	return limit
}

// many is a tree of n files dir/f00, dir/f01 and so on; the blob of each is its number and a beginning.
func many(dir string, n int, begin api.ID) []api.Entry {
	var entries []api.Entry
	for i := range n {
		entries = append(entries, api.Entry{Path: fmt.Sprintf("%s/f%02d", dir, i), Blob: begin + api.ID(i)})
	}
	return entries
}

func turned(changes []Change) []Change {
	var back []Change
	for _, c := range changes {
		back = append(back, Change{Path: c.Path, Old: c.New, New: c.Old})
	}
	return back
}

func wantDiff(t *testing.T, a, b []api.Entry, limit []string, want []Change) {
	t.Helper()
	set := limitOf(t, limit...)
	if l := Diff(a, b, set); !slices.Equal(l, want) {
		t.Errorf("Diff of %s, %s within %q: %s, want %s", short(a), short(b), limit, short(l), short(want))
	}
	if same := Same(a, b, set); same != (len(want) == 0) {
		t.Errorf("Same of %s, %s within %q: %v", short(a), short(b), limit, same)
	}
}

func wantMoves(t *testing.T, a, b []api.Entry, want []Move) {
	t.Helper()
	if l := Moves(a, b); !slices.Equal(l, want) {
		t.Errorf("Moves of %s, %s: %s, want %s", short(a), short(b), short(l), short(want))
	}
}

func wantOrigin(t *testing.T, a, b []api.Entry, p, want string, found bool) {
	t.Helper()
	if s, ok := Origin(a, b, p); s != want || ok != found {
		t.Errorf("Origin of %s, %s, %q: %q, %v, want %q, %v", short(a), short(b), p, s, ok, want, found)
	}
}

func wantTouched(t *testing.T, changes []Change, want []string) {
	t.Helper()
	if l := Touched(changes...); !slices.Equal(l, want) {
		t.Errorf("Touched of %s: %s, want %s", short(changes), short(l), short(want))
	}
}

func wantMade(t *testing.T, a []api.Entry, changes []Change, want []api.Entry) {
	t.Helper()
	if l, e := Apply(a, changes...); e != api.OK || !slices.Equal(l, want) {
		t.Errorf("Apply of %s, %s: %s, %v, want %s", short(a), short(changes), short(l), e, short(want))
	}
}

func wantRefused(t *testing.T, a []api.Entry, changes []Change, want api.Errno) {
	t.Helper()
	if l, e := Apply(a, changes...); e != want || len(l) != 0 {
		t.Errorf("Apply of %s, %s: %s, %v, want %v", short(a), short(changes), short(l), e, want)
	}
}

func TestExamples(t *testing.T) {
	a, b := tree(t, "x 1", "y 2"), tree(t, "y 3", "z 1")
	wantDiff(t, a, b, nil, changesOf("x 1 0", "y 2 3", "z 0 1"))
	wantMoves(t, a, b, movesOf("x z"))
	wantOrigin(t, a, b, "z", "x", true)
	wantOrigin(t, a, b, "y", "y", true)
	wantTouched(t, changesOf("p/q 0 1"), []string{"p", "p/q"})
}

// P10.1.
func TestDiff(t *testing.T) {
	full, other := many("d", 64, 1), many("e", 64, 1)
	newer := many("d", 64, 101)
	lastTurned := slices.Clone(full)
	lastTurned[63].Blob = 7
	for name, r := range map[string]struct {
		a, b []api.Entry
		want []Change
	}{
		"both empty":          {},
		"the first empty":     {nil, tree(t, "a 1", "b/c 2"), changesOf("a 0 1", "b/c 0 2")},
		"the second empty":    {tree(t, "a 1", "b/c 2"), nil, changesOf("a 1 0", "b/c 2 0")},
		"the same":            {tree(t, "a 1", "b/c 2"), tree(t, "a 1", "b/c 2"), nil},
		"one blob":            {tree(t, "a 1", "b 2", "c 3"), tree(t, "a 1", "b 4", "c 3"), changesOf("b 2 4")},
		"one more, first":     {tree(t, "b 2", "c 3"), tree(t, "a 1", "b 2", "c 3"), changesOf("a 0 1")},
		"one more, between":   {tree(t, "a 1", "c 3"), tree(t, "a 1", "b 2", "c 3"), changesOf("b 0 2")},
		"one more, last":      {tree(t, "a 1", "b 2"), tree(t, "a 1", "b 2", "c 3"), changesOf("c 0 3")},
		"one less, first":     {tree(t, "a 1", "b 2", "c 3"), tree(t, "b 2", "c 3"), changesOf("a 1 0")},
		"one less, between":   {tree(t, "a 1", "b 2", "c 3"), tree(t, "a 1", "c 3"), changesOf("b 2 0")},
		"one less, last":      {tree(t, "a 1", "b 2", "c 3"), tree(t, "a 1", "b 2"), changesOf("c 3 0")},
		"in turn":             {tree(t, "a 1", "c 2", "e 3"), tree(t, "b 1", "d 2", "f 3"), changesOf("a 1 0", "b 0 1", "c 2 0", "d 0 2", "e 3 0", "f 0 3")},
		"one behind the rest": {tree(t, "x 1", "y 2"), tree(t, "a 1", "b 2"), changesOf("a 0 1", "b 0 2", "x 1 0", "y 2 0")},
		"moved":               {tree(t, "a 1"), tree(t, "b 1"), changesOf("a 1 0", "b 0 1")},
		"changed places":      {tree(t, "a 1", "b 2"), tree(t, "a 2", "b 1"), changesOf("a 1 2", "b 2 1")},
		"file to directory":   {tree(t, "a 1"), tree(t, "a/b 1", "a/c 2"), changesOf("a 1 0", "a/b 0 1", "a/c 0 2")},
		"directory to file":   {tree(t, "a/b 1", "a/c 2"), tree(t, "a 1"), changesOf("a 0 1", "a/b 1 0", "a/c 2 0")},
		"a.b between, there":  {tree(t, "a 1", "a.b 2"), tree(t, "a.b 3", "a/b 4"), changesOf("a 1 0", "a.b 2 3", "a/b 0 4")},
		"a.b between, back":   {tree(t, "a.b 3", "a/b 4"), tree(t, "a 1", "a.b 2"), changesOf("a 0 1", "a.b 3 2", "a/b 4 0")},
		"a.b between, same":   {tree(t, "a 1", "a.b 2", "ab 5"), tree(t, "a.b 2", "a/b 4", "ab 5"), changesOf("a 1 0", "a/b 0 4")},
		"names' beginnings":   {tree(t, "a 1", "aa 1"), tree(t, "aa 1", "aaa 1"), changesOf("a 1 0", "aaa 0 1")},
		"64, the same":        {full, slices.Clone(full), nil},
		"64, all changed":     {full, newer, plainDiff(full, newer)},
		"64, all moved":       {full, other, slices.Concat(plainDiff(full, nil), plainDiff(nil, other))},
		"64, the last":        {full, lastTurned, changesOf("d/f63 64 7")},
		"64 gone":             {full, nil, plainDiff(full, nil)},
		"64 come":             {nil, full, plainDiff(nil, full)},
	} {
		t.Run(name, func(t *testing.T) {
			wantDiff(t, r.a, r.b, nil, r.want)
			wantDiff(t, r.b, r.a, nil, turned(r.want))
			wantDiff(t, r.a, r.a, nil, nil)
			wantMade(t, r.a, r.want, r.b)
			wantMade(t, r.b, turned(r.want), r.a)
		})
	}
	if l := Diff(full, newer, path.Set{}); len(l) != 64 {
		t.Errorf("%d changes of 64", len(l))
	}
	high := []api.Entry{{Path: "a", Blob: math.MaxUint64}}
	wantDiff(t, high, tree(t, "a 1"), nil, []Change{{Path: "a", Old: math.MaxUint64, New: 1}})
}

// P10.1.
func TestDiffWithin(t *testing.T) {
	a := tree(t, "a 1", "a.b 2", "ab/c 3", "d/e 4", "d/f/g 5", "d/f/h 6", "s 9")
	b := tree(t, "a.b 7", "a/b 2", "ab/c 8", "d/e 4", "d/f 5", "q 1", "s 9")
	all := changesOf("a 1 0", "a.b 2 7", "a/b 0 2", "ab/c 3 8", "d/f 0 5", "d/f/g 5 0", "d/f/h 6 0", "q 0 1")
	sixteen := []string{"p00", "p01", "p02", "p03", "p04", "p05", "p06", "p07", "p08", "p09", "p10", "p11", "p12", "p13", "p14", "q"}
	for _, r := range []struct {
		limit []string
		want  []Change
	}{
		{nil, all},
		{[]string{"a", "a.b", "ab", "d", "q", "s"}, all},
		{[]string{"a"}, changesOf("a 1 0", "a/b 0 2")},
		{[]string{"a/b"}, changesOf("a/b 0 2")},
		{[]string{"a.b"}, changesOf("a.b 2 7")},
		{[]string{"ab"}, changesOf("ab/c 3 8")},
		{[]string{"ab/c"}, changesOf("ab/c 3 8")},
		{[]string{"d"}, changesOf("d/f 0 5", "d/f/g 5 0", "d/f/h 6 0")},
		{[]string{"d/f"}, changesOf("d/f 0 5", "d/f/g 5 0", "d/f/h 6 0")},
		{[]string{"d/f/h"}, changesOf("d/f/h 6 0")},
		{[]string{"d/e"}, nil},
		{[]string{"s"}, nil},
		{[]string{"d/e", "s"}, nil},
		{[]string{"none"}, nil},
		{[]string{"none", "b", "d/f/g/h", "a/b/c", "q/q", "c"}, nil},
		{[]string{"none", "q"}, changesOf("q 0 1")},
		{[]string{"q", "a"}, changesOf("a 1 0", "a/b 0 2", "q 0 1")},
		{sixteen, changesOf("q 0 1")},
	} {
		wantDiff(t, a, b, r.limit, r.want)
		wantDiff(t, b, a, r.limit, turned(r.want))
		wantDiff(t, a, a, r.limit, nil)
		wantDiff(t, nil, nil, r.limit, nil)
	}
	if l := Diff(a, b, path.Set{}); !slices.Equal(l, all) || Same(a, b, path.Set{}) || !Same(b, b, path.Set{}) {
		t.Errorf("the zero path set: %v", l)
	}
}

// P10.2.
func TestMoves(t *testing.T) {
	full, other := many("d", 64, 1), many("e", 64, 1)
	alike, alikeElsewhere := slices.Clone(full), slices.Clone(other)
	for i := range alike {
		alike[i].Blob, alikeElsewhere[i].Blob = 5, 5
	}
	var all []Move
	for i := range full {
		all = append(all, Move{From: full[i].Path, To: other[i].Path})
	}
	for name, r := range map[string]struct {
		a, b []api.Entry
		want []Move
	}{
		"both empty":                {},
		"the first empty":           {nil, tree(t, "a 1"), nil},
		"the second empty":          {tree(t, "a 1"), nil, nil},
		"the same":                  {tree(t, "a 1", "b 1"), tree(t, "a 1", "b 1"), nil},
		"one":                       {tree(t, "a 1"), tree(t, "b 1"), movesOf("a b")},
		"one, back":                 {tree(t, "b 1"), tree(t, "a 1"), movesOf("b a")},
		"another blob":              {tree(t, "a 1"), tree(t, "b 2"), nil},
		"two of one blob":           {tree(t, "a 1", "b 1"), tree(t, "y 1", "z 1"), movesOf("a y", "b z")},
		"three, more gone":          {tree(t, "a 1", "b 1", "c 1"), tree(t, "y 1", "z 1"), movesOf("a y", "b z")},
		"three, more come":          {tree(t, "a 1", "b 1"), tree(t, "x 1", "y 1", "z 1"), movesOf("a x", "b y")},
		"the lesser ones to take":   {tree(t, "m 1", "n 1"), tree(t, "a 1", "z 1"), movesOf("m a", "n z")},
		"two blobs mixed":           {tree(t, "a 1", "b 2", "c 1", "d 2"), tree(t, "w 2", "x 1", "y 1", "z 2"), movesOf("b w", "a x", "c y", "d z")},
		"a blob of none between":    {tree(t, "a 1", "b 2"), tree(t, "x 3", "y 2", "z 1"), movesOf("b y", "a z")},
		"a copy":                    {tree(t, "a 1"), tree(t, "a 1", "b 1"), nil},
		"a copy, the lesser one":    {tree(t, "b 1"), tree(t, "a 1", "b 1"), nil},
		"a copy and a move":         {tree(t, "a 1", "b 1"), tree(t, "a 1", "c 1", "d 1"), movesOf("b c")},
		"places changed":            {tree(t, "a 1", "b 2"), tree(t, "a 2", "b 1"), nil},
		"in a circle, one aside":    {tree(t, "a 1", "b 2", "c 3"), tree(t, "a 2", "b 3", "d 1"), nil},
		"onto one that was there":   {tree(t, "a 1", "b 2"), tree(t, "b 1"), nil},
		"from one that still is":    {tree(t, "a 1"), tree(t, "a 2", "b 1"), nil},
		"file below itself":         {tree(t, "a 1"), tree(t, "a/b 1"), movesOf("a a/b")},
		"file above itself":         {tree(t, "a/b 1"), tree(t, "a 1"), movesOf("a/b a")},
		"a.b between":               {tree(t, "a 1", "a.b 1"), tree(t, "a/b 1", "a/c 1"), movesOf("a a/b", "a.b a/c")},
		"a.b between, back":         {tree(t, "a/b 1", "a/c 1"), tree(t, "a 1", "a.b 1"), movesOf("a/b a", "a/c a.b")},
		"a directory":               {tree(t, "d/x 1", "d/y 2"), tree(t, "e/x 1", "e/y 2"), movesOf("d/x e/x", "d/y e/y")},
		"the names aren't asked":    {tree(t, "d/y 1", "e/x 1"), tree(t, "f/x 1", "f/y 1"), movesOf("d/y f/x", "e/x f/y")},
		"gone with a changed one":   {tree(t, "a 1", "b 1", "c 1"), tree(t, "b 2", "d 1"), movesOf("a d")},
		"one changed to the same":   {tree(t, "a 1", "b 2"), tree(t, "b 1", "c 1"), movesOf("a c")},
		"64":                        {full, other, all},
		"64 alike":                  {alike, alikeElsewhere, all},
		"64 alike to one":           {alike, tree(t, "z 5"), movesOf("d/f00 z")},
		"one to 64 alike":           {tree(t, "z 5"), alike, movesOf("z d/f00")},
		"64 alike, all there still": {alike, alike, nil},
	} {
		t.Run(name, func(t *testing.T) {
			wantMoves(t, r.a, r.b, r.want)
			for _, m := range r.want {
				wantOrigin(t, r.a, r.b, m.To, m.From, true)
				wantOrigin(t, r.a, r.b, m.From, "", false)
			}
		})
	}
	high := []api.Entry{{Path: "a", Blob: math.MaxUint64}}
	wantMoves(t, high, []api.Entry{{Path: "b", Blob: math.MaxUint64}}, movesOf("a b"))
}

// P10.2.
func TestOrigin(t *testing.T) {
	a := tree(t, "a 1", "b 1", "c 1", "d/e 4", "k 2", "u 8", "v 9")
	b := tree(t, "c 1", "d 4", "n 7", "p 1", "q 2", "r 1", "s 1", "u 9", "v 8")
	for _, r := range []struct {
		p, want string
		found   bool
	}{
		{"c", "c", true},   // in both, the same
		{"u", "u", true},   // in both, though v has its blob now
		{"v", "v", true},   //
		{"p", "a", true},   // moved
		{"q", "k", true},   //
		{"r", "b", true},   //
		{"d", "d/e", true}, // moved up
		{"s", "", false},   // in b alone: a, b and c are taken, or there
		{"n", "", false},   // in b alone: its blob is new
		{"a", "", false},   // in a alone
		{"k", "", false},   //
		{"d/e", "", false}, //
		{"none", "", false},
		{"d/f", "", false},
		{"c/c", "", false},
		{"", "", false},
		{"/", "", false},
		{"/c", "", false},
		{"c/", "", false},
		{"C", "", false},
		{"c c", "", false},
		{"c\x00", "", false},
		{"\xff", "", false},
		{strings.Repeat("c", 17), "", false},
		{strings.Repeat("c/", 6) + "c", "", false},
	} {
		wantOrigin(t, a, b, r.p, r.want, r.found)
		wantOrigin(t, nil, nil, r.p, "", false)
		wantOrigin(t, a, nil, r.p, "", false)
		wantOrigin(t, nil, b, r.p, "", false)
	}
	for _, x := range a {
		wantOrigin(t, a, a, x.Path, x.Path, true)
	}
}

// P10.3.
func TestTouched(t *testing.T) {
	long := strings.Repeat("x", 16)
	six := strings.Join([]string{long, long, long, long, long, long}, "/")
	for _, r := range []struct{ changes, want []string }{
		{nil, nil},
		{[]string{"a"}, []string{"a"}},
		{[]string{"p/q"}, []string{"p", "p/q"}},
		{[]string{"a/b/c"}, []string{"a", "a/b", "a/b/c"}},
		{[]string{"b", "a"}, []string{"a", "b"}},
		{[]string{"a", "a"}, []string{"a"}},
		{[]string{"a/b", "a/b"}, []string{"a", "a/b"}},
		{[]string{"a/b", "a/c"}, []string{"a", "a/b", "a/c"}},
		{[]string{"a/c", "a/b", "a"}, []string{"a", "a/b", "a/c"}},
		{[]string{"a/b/c", "a/b/d", "a/e/c"}, []string{"a", "a/b", "a/b/c", "a/b/d", "a/e", "a/e/c"}},
		{[]string{"a", "a/b"}, []string{"a", "a/b"}},
		{[]string{"a/b", "a.b"}, []string{"a", "a.b", "a/b"}},
		{[]string{"ab/c", "a/b", "a.b/c"}, []string{"a", "a.b", "a.b/c", "a/b", "ab", "ab/c"}},
		{[]string{"b/a", "a/b"}, []string{"a", "a/b", "b", "b/a"}},
		{[]string{"a/a/a/a/a/a"}, []string{"a", "a/a", "a/a/a", "a/a/a/a", "a/a/a/a/a", "a/a/a/a/a/a"}},
		{[]string{six}, []string{six[:16], six[:33], six[:50], six[:67], six[:84], six}},
	} {
		// What was there, and what comes, tells nothing.
		for _, id := range []api.ID{0, 1, math.MaxUint64} {
			var changes []Change
			for i, p := range r.changes {
				changes = append(changes, Change{Path: p, Old: id, New: api.ID(i) / 2})
			}
			wantTouched(t, changes, r.want)
		}
	}
	a := many("d/e", 64, 1)
	want := []string{"d", "d/e"}
	for _, x := range a {
		want = append(want, x.Path)
	}
	changes := Diff(a, nil, path.Set{})
	wantTouched(t, changes, want)
	slices.Reverse(changes)
	wantTouched(t, append(changes, changes...), want)
}

// P10.4.
func TestApply(t *testing.T) {
	a := tree(t, "a 1", "b/c 2", "d 3")
	full := many("f", 64, 1)
	for name, r := range map[string]struct {
		a       []api.Entry
		changes []string
		want    []api.Entry
	}{
		"none":                     {a, nil, a},
		"none, to nothing":         {nil, nil, nil},
		"a new blob":               {a, []string{"b/c 2 9"}, files("a 1", "b/c 9", "d 3")},
		"one gone, first":          {a, []string{"a 1 0"}, files("b/c 2", "d 3")},
		"one gone, between":        {a, []string{"b/c 2 0"}, files("a 1", "d 3")},
		"one gone, last":           {a, []string{"d 3 0"}, files("a 1", "b/c 2")},
		"all gone":                 {a, []string{"d 3 0", "a 1 0", "b/c 2 0"}, nil},
		"one come, first":          {a, []string{"0 0 9"}, files("0 9", "a 1", "b/c 2", "d 3")},
		"one come, between":        {a, []string{"b/b 0 9"}, files("a 1", "b/b 9", "b/c 2", "d 3")},
		"one come, last":           {a, []string{"e 0 9"}, files("a 1", "b/c 2", "d 3", "e 9")},
		"into nothing":             {nil, []string{"e 0 9", "c 0 8", "d 0 7"}, files("c 8", "d 7", "e 9")},
		"all kinds, falling":       {a, []string{"e 0 4", "d 3 5", "a 1 0"}, files("b/c 2", "d 5", "e 4")},
		"old and new the same":     {a, []string{"a 1 1"}, a},
		"all the same":             {a, []string{"d 3 3", "b/c 2 2", "a 1 1"}, a},
		"old and new 0":            {a, []string{"e 0 0"}, a},
		"old and new 0, below one": {a, []string{"a/b 0 0", "b 0 0"}, a},
		"old and new 0, nothing":   {nil, []string{"e 0 0"}, nil},
		"a file to a directory":    {a, []string{"a 1 0", "a/b 0 1"}, files("a/b 1", "b/c 2", "d 3")},
		"the other way about":      {a, []string{"a/b 0 1", "a 1 0"}, files("a/b 1", "b/c 2", "d 3")},
		"a directory to a file":    {a, []string{"b 0 2", "b/c 2 0"}, files("a 1", "b 2", "d 3")},
		"a.b beside a":             {a, []string{"a.b 0 7", "ab 0 8"}, files("a 1", "a.b 7", "ab 8", "b/c 2", "d 3")},
		"blobs in common":          {a, []string{"x 0 1", "y 0 1"}, files("a 1", "b/c 2", "d 3", "x 1", "y 1")},
		"the 64th":                 {full[:63], []string{"f/f63 0 64"}, full},
		"one for another of 64":    {full, []string{"g 0 9", "f/f00 1 0"}, append(slices.Clone(full[1:]), files("g 9")...)},
		"64 and nothing more":      {full, []string{"g 0 0", "h 0 0"}, full},
	} {
		t.Run(name, func(t *testing.T) {
			if !isTree(r.a) || !isTree(r.want) {
				t.Fatal("a test's files are no tree")
			}
			wantMade(t, r.a, changesOf(r.changes...), r.want)
		})
	}
	big := []Change{{Path: "a", Old: 1, New: math.MaxUint64}}
	wantMade(t, a, big, []api.Entry{{Path: "a", Blob: math.MaxUint64}, a[1], a[2]})
	wantMade(t, []api.Entry{{Path: "a", Blob: math.MaxUint64}, a[1], a[2]}, turned(big), a)
}

// P10.4.
func TestApplyRefused(t *testing.T) {
	a := tree(t, "a 1", "b/c 2", "d 3")
	full := many("f", 64, 1)
	for name, r := range map[string]struct {
		a       []api.Entry
		changes []string
		want    api.Errno
	}{
		"a path twice":                {a, []string{"a 1 2", "a 1 2"}, api.ErrForm},
		"a path twice, as if in turn": {a, []string{"a 1 2", "a 2 3"}, api.ErrForm},
		"twice, there and back":       {a, []string{"a 1 2", "a 2 1"}, api.ErrForm},
		"twice, gone and come":        {a, []string{"a 1 0", "a 0 1"}, api.ErrForm},
		"twice, come and gone":        {a, []string{"e 0 1", "e 1 0"}, api.ErrForm},
		"twice, nothing done":         {a, []string{"a 1 1", "a 1 1"}, api.ErrForm},
		"twice, nothing there":        {a, []string{"e 0 0", "e 0 0"}, api.ErrForm},
		"twice, with others between":  {a, []string{"a 1 2", "d 3 4", "b/c 2 3", "a 1 2"}, api.ErrForm},
		"old is wrong":                {a, []string{"a 2 3"}, api.ErrForm},
		"old is another's":            {a, []string{"a 3 1"}, api.ErrForm},
		"old is wrong, gone":          {a, []string{"a 2 0"}, api.ErrForm},
		"old is wrong, as new is":     {a, []string{"a 2 2"}, api.ErrForm},
		"old is wrong, new is there":  {a, []string{"a 2 1"}, api.ErrForm},
		"old is 0, it is there":       {a, []string{"a 0 2"}, api.ErrForm},
		"old is 0, it stays":          {a, []string{"a 0 1"}, api.ErrForm},
		"old and new 0, it is there":  {a, []string{"a 0 0"}, api.ErrForm},
		"old isn't 0, it isn't there": {a, []string{"e 1 2"}, api.ErrForm},
		"the same, new is 0":          {a, []string{"e 1 0"}, api.ErrForm},
		"a directory is no file":      {a, []string{"b 2 3"}, api.ErrForm},
		"nothing is there":            {nil, []string{"a 1 2"}, api.ErrForm},
		"the second is wrong":         {a, []string{"a 1 2", "d 1 2"}, api.ErrForm},
		"the last is wrong":           {a, []string{"a 1 2", "e 0 1", "d 3 0", "b/c 1 2"}, api.ErrForm},

		"a file below a file":       {a, []string{"a/b 0 1"}, api.ErrTree},
		"below one that is changed": {a, []string{"a 1 2", "a/b 0 1"}, api.ErrTree},
		"a file above a file":       {a, []string{"b 0 1"}, api.ErrTree},
		"new ones, each in another": {a, []string{"e/f 0 1", "e 0 1"}, api.ErrTree},
		"with e.f between":          {a, []string{"e/f 0 1", "e.f 0 1", "e 0 1"}, api.ErrTree},
		"far below":                 {a, []string{"d/d/d/d/d/d 0 1"}, api.ErrTree},
		"65 files":                  {full, []string{"g 0 1"}, api.ErrLong},
		"66 files, one gone":        {full, []string{"g 0 1", "f/f00 1 0", "h 0 1"}, api.ErrLong},
		"no path":                   {a, []string{"A 0 1"}, api.ErrName},
		"no path, a slash behind":   {a, []string{"e/ 0 1"}, api.ErrName},
		"no path, a long name":      {a, []string{"abcdefghijklmnopq 0 1"}, api.ErrName},
		"no path, seven names":      {a, []string{"e/e/e/e/e/e/e 0 1"}, api.ErrName},

		"form ahead of long":                {full, []string{"g 0 1", "h 1 2"}, api.ErrForm},
		"form ahead of name":                {a, []string{"A 0 1", "a 2 3"}, api.ErrForm},
		"form ahead of tree":                {a, []string{"a/b 0 1", "a/b 0 1"}, api.ErrForm},
		"form ahead of all":                 {full, []string{"f 0 1", "A 0 1", "f/f00 2 3"}, api.ErrForm},
		"long ahead of name":                {full, []string{"A 0 1"}, api.ErrLong},
		"long ahead of tree":                {full, []string{"f 0 1"}, api.ErrLong},
		"long ahead of name and tree":       {full, []string{"f 0 1", "A 0 1"}, api.ErrLong},
		"name ahead of tree":                {a, []string{"a/b 0 1", "A 0 1"}, api.ErrName},
		"name ahead of tree, the other way": {a, []string{"A 0 1", "a/b 0 1"}, api.ErrName},
		"tree, 64 files":                    {full[:63], []string{"f 0 1"}, api.ErrTree},
		"tree, one for another":             {full, []string{"f 0 1", "f/f00 1 0"}, api.ErrTree},
		"name, one for another":             {full, []string{"A 0 1", "f/f00 1 0"}, api.ErrName},
	} {
		t.Run(name, func(t *testing.T) {
			if !isTree(r.a) {
				t.Fatal("a test's files are no tree")
			}
			wantRefused(t, r.a, changesOf(r.changes...), r.want)
		})
	}
	wantRefused(t, a, []Change{{Path: "", New: 1}}, api.ErrName)
	wantRefused(t, a, []Change{{Path: "e\n", New: 1}}, api.ErrName)
	// Old and New are whole numbers of 64 bits: not their low halves alone are held against each other.
	wantRefused(t, a, []Change{{Path: "a", Old: 1 << 32, New: 2}}, api.ErrForm)
	wantRefused(t, a, []Change{{Path: "a", Old: 1<<32 + 1, New: 2}}, api.ErrForm)
	wantRefused(t, nil, []Change{{Path: "a", Old: 1 << 63}}, api.ErrForm)
	wantMade(t, nil, []Change{{Path: "a", New: 1 << 63}}, []api.Entry{{Path: "a", Blob: 1 << 63}})
}

// The more often names are met again, the more often paths are under others, and come, go and move.
func randomPath(r *rand.Rand) string {
	names := []string{"a", "b", "a.b", "ab", "_", "0", ".", "z"}
	var parts []string
	for range 1 + r.Intn(3) {
		parts = append(parts, names[r.Intn(len(names))])
	}
	return strings.Join(parts, "/")
}

func randomTree(r *rand.Rand) []api.Entry {
	var entries []api.Entry
	size := r.Intn(12)
	if r.Intn(20) == 0 {
		size = 64
	}
	for range 4 * size {
		p := randomPath(r)
		clash := func(x api.Entry) bool { return plainUnder(x.Path, p) || plainUnder(p, x.Path) }
		if len(entries) < size && !slices.ContainsFunc(entries, clash) {
			entries = append(entries, api.Entry{Path: p, Blob: randomBlob(r)})
		}
	}
	slices.SortFunc(entries, func(x, y api.Entry) int { return strings.Compare(x.Path, y.Path) })
	return entries
}

func randomBlob(r *rand.Rand) api.ID {
	return []api.ID{1, 1, 2, 2, 3, 4, 1 << 32, math.MaxUint64}[r.Intn(8)]
}

// altered is a tree with some files gone, come, changed and moved.
func altered(r *rand.Rand, a []api.Entry) []api.Entry {
	b := slices.Clone(a)
	for range r.Intn(5) {
		switch at := r.Intn(len(b) + 1); {
		case at == len(b):
			b = append(b, api.Entry{Path: randomPath(r), Blob: randomBlob(r)})
		case r.Intn(3) == 0:
			b = slices.Delete(b, at, at+1)
		case r.Intn(2) == 0:
			b[at].Path = randomPath(r)
		default:
			b[at].Blob = randomBlob(r)
		}
	}
	slices.SortFunc(b, func(x, y api.Entry) int { return strings.Compare(x.Path, y.Path) })
	if !isTree(b) {
		return a
	}
	return b
}

func randomLimit(r *rand.Rand) []string {
	var limit []string
	for range r.Intn(4) {
		limit = append(limit, randomPath(r))
	}
	return limit
}

// mangled is changes of which some don't fit, or make no tree.
func mangled(r *rand.Rand, changes []Change) []Change {
	l := slices.Clone(changes)
	r.Shuffle(len(l), func(i, j int) { l[i], l[j] = l[j], l[i] })
	for range r.Intn(3) {
		switch at := r.Intn(len(l) + 1); {
		case at == len(l):
			l = append(l, Change{Path: randomPath(r), New: randomBlob(r)})
		case r.Intn(2) == 0:
			l = slices.Delete(l, at, at+1)
		case r.Intn(4) == 0:
			l = append(l, l[at])
		case r.Intn(3) == 0:
			l[at].Old = randomBlob(r)
		default:
			l[at].New = 0
		}
	}
	return l
}

// met counts what random inputs came to.
type met map[string]int

func (m met) note(what string, is bool) {
	if is {
		m[what]++
	}
}

func (m met) wantEach(t *testing.T, least int, whats ...string) {
	t.Helper()
	for _, what := range whats {
		if m[what] < least {
			t.Errorf("%s: met too seldom: %d times", what, m[what])
		}
	}
}

// P10.1 to P10.4, held against the plain ones.
func TestRandom(t *testing.T) {
	r := rand.New(rand.NewSource(1))
	m := met{}
	for range 6000 {
		a := randomTree(r)
		b := altered(r, a)
		if r.Intn(3) == 0 {
			b = randomTree(r)
		}
		if !isTree(a) || !isTree(b) {
			t.Fatal("no tree")
		}
		limit := randomLimit(r)
		wantDiff(t, a, b, limit, plainDiff(a, b, limit...))
		changes, within := Diff(a, b, path.Set{}), Diff(a, b, limitOf(t, limit...))
		m.note("same", len(changes) == 0 && len(a) > 0)
		m.note("differs", len(changes) > 0)
		m.note("same within a limit", len(within) == 0 && len(changes) > 0)
		m.note("a part within a limit", len(within) > 0 && len(within) < len(changes))
		checkMoves(t, m, a, b)
		wantTouched(t, changes, plainTouched(changes))
		checkApply(t, m, r, a, b)
		if t.Failed() {
			return
		}
	}
	m.wantEach(t, 100, "same", "differs", "same within a limit", "a part within a limit", "no move", "moves",
		"more come than gone", "in both", "moved", "new", "not there",
		api.OK.Error(), api.ErrForm.Error(), api.ErrTree.Error())
}

func checkMoves(t *testing.T, m met, a, b []api.Entry) {
	t.Helper()
	moves := plainMoves(a, b)
	wantMoves(t, a, b, moves)
	m.note("no move", len(moves) == 0 && len(a) > 0 && len(b) > 0)
	m.note("moves", len(moves) > 1)
	for _, p := range plainPaths(a, b) {
		from, found := plainOrigin(a, b, p)
		wantOrigin(t, a, b, p, from, found)
		m.note("in both", found && from == p)
		m.note("moved", found && from != p)
		m.note("new", !found && plainBlob(b, p) != 0)
		m.note("more come than gone", !found && plainBlob(b, p) != 0 && slices.ContainsFunc(a, func(x api.Entry) bool { return x.Blob == plainBlob(b, p) }))
		m.note("not there", !found && plainBlob(b, p) == 0)
	}
}

// checkApply does what differs, there and back, in any order, and what is mangled.
func checkApply(t *testing.T, m met, r *rand.Rand, a, b []api.Entry) {
	t.Helper()
	changes := Diff(a, b, path.Set{})
	wantMade(t, a, changes, b)
	wantMade(t, b, turned(changes), a)
	wantMade(t, b, Diff(b, a, path.Set{}), a)
	shuffled := slices.Clone(changes)
	r.Shuffle(len(shuffled), func(i, j int) { shuffled[i], shuffled[j] = shuffled[j], shuffled[i] })
	wantMade(t, a, shuffled, b)
	l := mangled(r, changes)
	made, e := plainApply(a, l)
	m.note(e.Error(), true)
	if e != api.OK {
		wantRefused(t, a, l, e)
		return
	}
	wantMade(t, a, l, made)
}

// Done within a limit, no change is left there, and none outside is done.
func TestApplyWithin(t *testing.T) {
	r := rand.New(rand.NewSource(2))
	done := 0
	for range 2000 {
		a := randomTree(r)
		b := altered(r, a)
		limit := limitOf(t, randomLimit(r)...)
		within := Diff(a, b, limit)
		made, e := Apply(a, within...)
		if e != api.OK {
			continue // A file outside stands where a directory would be within.
		}
		done++
		if !Same(made, b, limit) || !slices.Equal(Diff(a, made, path.Set{}), within) {
			t.Fatalf("of %v to %v within %v: %v", a, b, limit.Paths(), made)
		}
	}
	if done < 1000 {
		t.Errorf("done too seldom: %d times", done)
	}
}

func rising(paths []string) bool {
	for i := 1; i < len(paths); i++ {
		if paths[i-1] >= paths[i] {
			return false
		}
	}
	return true
}

func TestAllListsRise(t *testing.T) {
	r := rand.New(rand.NewSource(3))
	for range 1000 {
		a, b := randomTree(r), randomTree(r)
		changes, moves := Diff(a, b, path.Set{}), Moves(a, b)
		var paths, to, from, made []string
		for _, c := range changes {
			paths = append(paths, c.Path)
		}
		for _, x := range moves {
			to, from = append(to, x.To), append(from, x.From)
		}
		r.Shuffle(len(changes), func(i, j int) { changes[i], changes[j] = changes[j], changes[i] })
		l, e := Apply(a, changes...)
		for _, x := range l {
			made = append(made, x.Path)
		}
		if !rising(paths) || !rising(to) || !rising(Touched(changes...)) || !rising(made) || e != api.OK {
			t.Fatalf("of %v, %v: %v, %v, %v, %v, %v", a, b, paths, to, Touched(changes...), made, e)
		}
		slices.Sort(from)
		if !rising(from) {
			t.Fatalf("of %v, %v: taken twice: %v", a, b, moves)
		}
	}
}

// randomList is any list: with paths that fall, are alike or none, with the blob 0, and too long.
func randomList(r *rand.Rand) []api.Entry {
	var entries []api.Entry
	for range r.Intn([]int{2, 10, 100}[r.Intn(3)]) {
		entries = append(entries, api.Entry{Path: anyText(r), Blob: api.ID(r.Intn(3))})
	}
	return entries
}

func anyText(r *rand.Rand) string {
	wrong := []string{"", "/", "a/", "/a", "A", "a//b", "\xff", "a\x00", strings.Repeat("a/", 50), strings.Repeat("a", 300)}
	if at := r.Intn(2 * len(wrong)); at < len(wrong) {
		return wrong[at]
	}
	return randomPath(r)
}

func randomChanges(r *rand.Rand) []Change {
	var changes []Change
	for range r.Intn([]int{2, 10, 100}[r.Intn(3)]) {
		changes = append(changes, Change{Path: anyText(r), Old: api.ID(r.Intn(2)), New: api.ID(r.Intn(3))})
	}
	return changes
}

// Rule 5: of lists that are no trees the calls end; and rule 3 holds for them too.
func TestNoTrees(t *testing.T) {
	r := rand.New(rand.NewSource(4))
	for range 3000 {
		a, b, changes := randomList(r), randomList(r), randomChanges(r)
		keptA, keptB, keptChanges := slices.Clone(a), slices.Clone(b), slices.Clone(changes)
		callAll(a, b, changes, limitOf(t, randomLimit(r)...), anyText(r))
		if !slices.Equal(a, keptA) || !slices.Equal(b, keptB) || !slices.Equal(changes, keptChanges) {
			t.Fatalf("what was handed in is changed: %v, %v, %v", keptA, keptB, keptChanges)
		}
		if l, e := Apply(a, changes...); e != api.OK && len(l) > 0 {
			t.Fatalf("entries beside %v", e)
		}
		if s, ok := Origin(a, b, anyText(r)); !ok && s != "" {
			t.Fatalf("a path beside false: %q", s)
		}
	}
}

func callAll(a, b []api.Entry, changes []Change, limit path.Set, p string) {
	Diff(a, b, limit)
	Same(a, b, limit)
	Moves(a, b)
	Origin(a, b, p)
	Touched(changes...)
	Apply(a, changes...)
}

// Rule 5: long lists end soon, too.
func TestLongLists(t *testing.T) {
	const n = 200000
	a, b, changes := make([]api.Entry, n), make([]api.Entry, n), make([]Change, n)
	nothing := make([]Change, n)
	for i := range n {
		a[i] = api.Entry{Path: fmt.Sprintf("a/%06d", i), Blob: 1}
		b[n-1-i] = api.Entry{Path: fmt.Sprintf("b/%06d", i), Blob: 1}
		changes[i] = Change{Path: fmt.Sprintf("a/%06d", n-1-i), Old: 1, New: 2}
		nothing[i] = Change{Path: fmt.Sprintf("c/%06d", i)}
	}
	callAll(a, b, changes, path.Set{}, b[0].Path)
	callAll(b, a, changes, path.Set{}, a[n-1].Path)
	wantRefused(t, a, changes, api.ErrLong)
	if l := Touched(changes...); len(l) != n+1 || !rising(l) {
		t.Errorf("%d paths", len(l))
	}
	// However many changes there are of what is not there and doesn't come, it is a tree.
	full := many("f", 64, 1)
	wantMade(t, full, nothing, full)
	wantRefused(t, full, append(nothing, nothing[n-1]), api.ErrForm)
	wantRefused(t, full, append(nothing[:n:n], Change{Path: "f/f63", Old: 63}), api.ErrForm)
}

// roomy lays a list into a longer one, whose spare room has a mark in each place.
func roomy[T any](list []T, mark T) []T {
	whole := slices.Repeat([]T{mark}, len(list)+8)
	copy(whole, list)
	return whole[:len(list)]
}

// untouched tells whether a roomy list is still as it was made.
func untouched[T comparable](list, was []T, mark T) bool {
	whole := list[:cap(list)]
	for i, x := range whole {
		if i < len(was) && x != was[i] || i >= len(was) && x != mark {
			return false
		}
	}
	return true
}

// Rule 3: what is handed in is not changed, its spare room neither.
func TestArgumentsStay(t *testing.T) {
	r := rand.New(rand.NewSource(5))
	entryMark, changeMark := api.Entry{Path: "mark", Blob: 77}, Change{Path: "mark", Old: 77, New: 78}
	for range 1500 {
		wasA := randomTree(r)
		wasB := altered(r, wasA)
		if r.Intn(2) == 0 {
			wasB = randomTree(r)
		}
		wasChanges := mangled(r, plainDiff(wasA, wasB))
		wasLimit := randomLimit(r)
		limit := limitOf(t, wasLimit...)
		limitPaths := limit.Paths()
		a, b, changes := roomy(wasA, entryMark), roomy(wasB, entryMark), roomy(wasChanges, changeMark)
		callAll(a, b, changes, limit, randomPath(r))
		if !untouched(a, wasA, entryMark) || !untouched(b, wasB, entryMark) || !untouched(changes, wasChanges, changeMark) {
			t.Fatalf("what was handed in is changed: %v, %v, %v", wasA, wasB, wasChanges)
		}
		if !slices.Equal(limit.Paths(), limitPaths) {
			t.Fatalf("the path set is changed: %v", limitPaths)
		}
	}
}

// Rule 3: nothing is kept, and answers are new memory, each for itself.
func TestAnswersAreNew(t *testing.T) {
	const wrong = "wrong"
	r := rand.New(rand.NewSource(6))
	for range 500 {
		a := randomTree(r)
		b := altered(r, a)
		changes := Diff(a, b, path.Set{})
		wantChanges, wantMovesList := plainDiff(a, b), plainMoves(a, b)
		wantTouchedList, wantEntries := plainTouched(changes), slices.Clone(b)
		first, firstMoves, firstTouched := Diff(a, b, path.Set{}), Moves(a, b), Touched(changes...)
		firstMade, _ := Apply(a, changes...)
		untouchedMade, _ := Apply(b)
		wantUntouched := slices.Clone(b)
		second, secondMoves, secondTouched := Diff(a, b, path.Set{}), Moves(a, b), Touched(changes...)
		secondMade, _ := Apply(a, changes...)
		// Whoever is answered may write into it, its spare room too, and whoever asked into what was handed in.
		fill(second, Change{Path: wrong})
		fill(secondMoves, Move{From: wrong})
		fill(secondTouched, wrong)
		fill(secondMade, api.Entry{Path: wrong})
		fill(changes, Change{Path: wrong})
		fill(a, api.Entry{Path: wrong})
		fill(b, api.Entry{Path: wrong})
		if !slices.Equal(first, wantChanges) || !slices.Equal(firstMoves, wantMovesList) ||
			!slices.Equal(firstTouched, wantTouchedList) || !slices.Equal(firstMade, wantEntries) || !slices.Equal(untouchedMade, wantUntouched) {
			t.Fatalf("an answer changed: %v, %v, %v, %v, %v", first, firstMoves, firstTouched, firstMade, untouchedMade)
		}
	}
}

func fill[T any](list []T, x T) {
	whole := list[:cap(list)]
	for i := range whole {
		whole[i] = x
	}
}

// Rule 4: what was asked ahead tells nothing.
func TestAskedAgain(t *testing.T) {
	r := rand.New(rand.NewSource(7))
	type asked struct {
		a, b    []api.Entry
		changes []Change
		limit   path.Set
	}
	var all []asked
	var told []string
	tell := func(x asked) string {
		made, e := Apply(x.a, x.changes...)
		from, ok := Origin(x.a, x.b, "a")
		return fmt.Sprint(Diff(x.a, x.b, x.limit), Same(x.a, x.b, x.limit), Moves(x.a, x.b), from, ok, Touched(x.changes...), made, e)
	}
	for range 300 {
		a := randomTree(r)
		b := altered(r, a)
		x := asked{a: a, b: b, changes: mangled(r, plainDiff(a, b)), limit: limitOf(t, randomLimit(r)...)}
		all, told = append(all, x), append(told, tell(x))
	}
	for _, i := range r.Perm(len(all)) {
		if s := tell(all[i]); s != told[i] {
			t.Fatalf("first %s, then %s", short(told[i]), short(s))
		}
	}
}

// Rule 2: an empty list may be nil or empty.
func TestEmptyOrNil(t *testing.T) {
	a := tree(t, "a 1")
	for _, none := range [][]api.Entry{nil, {}, a[:0]} {
		wantDiff(t, none, a, nil, changesOf("a 0 1"))
		wantDiff(t, a, none, nil, changesOf("a 1 0"))
		for _, other := range [][]api.Entry{nil, {}} {
			wantDiff(t, none, other, nil, nil)
			wantMoves(t, none, other, nil)
		}
		wantMoves(t, none, a, nil)
		wantMoves(t, a, none, nil)
		wantOrigin(t, none, a, "a", "", false)
		wantMade(t, none, changesOf("a 0 1"), a)
		wantMade(t, none, nil, nil)
	}
	for _, none := range [][]Change{nil, {}} {
		wantTouched(t, none, nil)
		wantMade(t, a, none, a)
	}
	if l := Touched(); len(l) != 0 {
		t.Errorf("Touched of nothing: %v", l)
	}
	if l, e := Apply(a); e != api.OK || !slices.Equal(l, a) {
		t.Errorf("Apply of no changes: %v, %v", l, e)
	}
}
