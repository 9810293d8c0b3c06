package path

import (
	"math/rand"
	"slices"
	"strings"
	"testing"

	"forebear/api"
)

const nameBytes = "abcdefghijklmnopqrstuvwxyz0123456789_."

// isName and isPath tell by the chapter's words alone.
func isName(s string) bool {
	for _, b := range []byte(s) {
		if strings.IndexByte(nameBytes, b) < 0 {
			return false
		}
	}
	return len(s) >= 1 && len(s) <= 16
}

func isPath(s string) bool {
	names := strings.Split(s, "/")
	return len(names) <= 6 && !slices.ContainsFunc(names, func(name string) bool { return !isName(name) })
}

func isUnder(p, dir string) bool { return p == dir || strings.HasPrefix(p, dir+"/") }

// errno is what Check or Name answers of what is, or is not, of its kind.
func errno(ok bool) api.Errno {
	if ok {
		return api.OK
	}
	return api.ErrName
}

func wantTexts(t *testing.T, what string, got []string, want ...string) {
	t.Helper()
	if !slices.Equal(got, want) {
		t.Errorf("%s: %q, want %q", what, got, want)
	}
}

func limit(t *testing.T, paths ...string) Set {
	t.Helper()
	s, e := Limit(paths...)
	if e != api.OK {
		t.Fatalf("Limit of %q: %v", paths, e)
	}
	return s
}

// wantRefused asks for an error, and for the zero Set beside it.
func wantRefused(t *testing.T, want api.Errno, paths ...string) {
	t.Helper()
	s, e := Limit(paths...)
	if e != want || s.paths != nil || len(s.Paths()) != 0 || !s.Has("any/path") {
		t.Errorf("Limit of %q: %q, %v, want %v", paths, s.paths, e, want)
	}
}

func wantHas(t *testing.T, s Set, p string, want bool) {
	t.Helper()
	if got := s.Has(p); got != want {
		t.Errorf("%q has %q: %v", s.paths, p, got)
	}
	if got := s.Any(p); got != want {
		t.Errorf("%q has any of %q: %v", s.paths, p, got)
	}
}

// The longest path: 6 names of 16 bytes.
func longest() string { return strings.Join(slices.Repeat([]string{"abcdefghij012_.z"}, 6), "/") }

func paths() []string {
	return []string{
		"a", "z", "0", "9", "_", ".", "..", "./..", "a/b", "ab", "a.b", "a_b", "a0", "a/a/a/a/a/a", "b.c/d_e/0",
		"abcdefghijklmnop", "abcdefghijklmnop/q", "q/0123456789_...._", "1/2/3/4/5", "1/2/3/4/5/6", longest(),
	}
}

func noPaths() []string {
	return []string{
		"", "/", "//", "a/", "/a", "/a/", "a//b", "a/b/", "a/b//c", "/a/b", "///", "a/b/c/d/e/f/", "/a/b/c/d/e/f",
		"a/b/c/d/e/f/g", "a/b/c/d/e//", "abcdefghijklmnopq", "a/abcdefghijklmnopq", "abcdefghijklmnopq/a", longest() + "z", longest() + "/z",
		"A", "Z", "aB", "a/B", "B/a", "a b", " a", "a ", "a\\b", "a-b", "a:b", "`a", "{a", "a@", "a\n", "\x00", "a\x00", "\xc3", "\xff", "é", "a/é", "ａ",
		"abcdefghijklmnoé", strings.Repeat("a", 1<<20), strings.Repeat("a/", 1<<20), strings.Repeat("/", 1<<20),
	}
}

// The chapter's examples.
func TestExamples(t *testing.T) {
	wantTexts(t, "Parts", Parts("a/b.c/d"), "a", "a/b.c", "a/b.c/d")
	for _, p := range []string{"a//b", "/a", "A"} {
		if e := Check(p); e != api.ErrName {
			t.Errorf("Check of %q: %v", p, e)
		}
	}
	s := limit(t, "b", "a/x", "a")
	wantTexts(t, "Paths", s.Paths(), "a", "b")
	wantHas(t, s, "a/y", true)
	wantHas(t, s, "ab", false)
	if !Under("", "") {
		t.Error("the empty text is not under itself")
	}
}

// P3.1: Check, of paths and of other texts.
func TestCheck(t *testing.T) {
	for _, p := range paths() {
		if e := Check(p); e != api.OK {
			t.Errorf("%q: %v", p, e)
		}
	}
	for _, p := range noPaths() {
		if e := Check(p); e != api.ErrName {
			t.Errorf("%.40q: %v", p, e)
		}
	}
}

// P3.1: a name has 1 to 16 bytes.
func TestNameLengths(t *testing.T) {
	for n := range 40 {
		s := strings.Repeat("n", n)
		want := errno(n >= 1 && n <= 16)
		if e := Name(s); e != want {
			t.Errorf("Name of %d bytes: %v", n, e)
		}
		for _, p := range []string{s, s + "/b", "b/" + s, "b/" + s + "/c", "1/2/3/4/5/" + s} {
			if e := Check(p); e != want {
				t.Errorf("Check of %q: %v", p, e)
			}
		}
	}
}

// P3.1: of all 256 bytes those that a name may have, wherever they stand; a / makes a path of two names, never a name.
func TestNameBytes(t *testing.T) {
	for b := range 256 {
		one := string([]byte{byte(b)})
		want := errno(strings.Contains(nameBytes, one))
		for _, s := range []string{one, one + "a", "a" + one, "a" + one + "a", "abcdefghijklmno" + one} {
			if e := Name(s); e != want {
				t.Errorf("Name of %q: %v", s, e)
			}
			for _, p := range []string{s, "b/" + s, s + "/b", "b/" + s + "/c"} {
				if e := Check(p); e != errno(isPath(p)) || one != "/" && e != want {
					t.Errorf("Check of %q: %v", p, e)
				}
			}
		}
	}
}

// P3.1: a name is no path of more names.
func TestNameOfPaths(t *testing.T) {
	for _, p := range slices.Concat(paths(), noPaths()) {
		if e := Name(p); e != errno(isName(p)) {
			t.Errorf("Name of %.40q: %v", p, e)
		}
	}
}

// P3.1: a path has 1 to 6 names, and as many parts.
func TestNameCounts(t *testing.T) {
	var names, parts []string
	for n := 1; n < 12; n++ {
		names = append(names, "n")
		p := strings.Join(names, "/")
		parts = append(parts, p)
		if n <= 6 {
			wantTexts(t, "Parts", Parts(p), parts...)
		} else {
			wantTexts(t, "Parts", Parts(p))
		}
		if e := Check(p); e != errno(n <= 6) {
			t.Errorf("Check of %d names: %v", n, e)
		}
	}
}

// P3.1: the parts of a path lead to it, name by name; no other text has any.
func TestParts(t *testing.T) {
	for _, p := range paths() {
		names := strings.Split(p, "/")
		var want []string
		for i := range names {
			want = append(want, strings.Join(names[:i+1], "/"))
		}
		wantTexts(t, "Parts", Parts(p), want...)
		for _, part := range want {
			if Check(part) != api.OK || !Under(p, part) {
				t.Errorf("%q of %q", part, p)
			}
		}
	}
	for _, p := range noPaths() {
		if parts := Parts(p); len(parts) != 0 {
			t.Errorf("Parts of %.40q: %d", p, len(parts))
		}
	}
}

// P3.1: Under, of any texts.
func TestUnder(t *testing.T) {
	for _, c := range []struct {
		p, dir string
		want   bool
	}{
		{"", "", true}, {"/", "", true}, {"/a", "", true}, {"//", "", true}, {"a", "", false}, {"a/b", "", false}, {"\x00", "", false},
		{"", "a", false}, {"", "/", false}, {"/", "/", true}, {"//", "/", true}, {"/a", "/", false}, {"//a", "/", true},
		{"a", "a", true}, {"a/", "a", true}, {"a/b", "a", true}, {"a/b/c", "a", true}, {"a//", "a", true}, {"a/b/c", "a/b", true},
		{"ab", "a", false}, {"a.b", "a", false}, {"a0", "a", false}, {"ab/c", "a", false}, {"a/bc", "a/b", false}, {"aa", "a", false},
		{"a", "a/", false}, {"a/", "a/", true}, {"a/b", "a/", false}, {"a//b", "a/", true}, {"a/b", "a/b", true},
		{"a", "a/b", false}, {"a", "ab", false}, {"b/a", "a", false}, {"/a/b", "a", false}, {"b", "a", false}, {"a/b", "b", false},
		{"A B/c", "A B", true}, {"\xff/\xfe", "\xff", true}, {"\xff\xfe", "\xff", false}, {"a\\b", "a", false},
	} {
		if got := Under(c.p, c.dir); got != c.want {
			t.Errorf("%q under %q: %v", c.p, c.dir, got)
		}
	}
}

// P3.1: Check, Parts and Under of many short texts, held against the chapter's words.
func TestManyTexts(t *testing.T) {
	texts := []string{""}
	for from := 0; len(texts) < 4000; from++ {
		for _, b := range []string{"a", "/", ".", "A"} {
			texts = append(texts, texts[from]+b)
		}
	}
	for _, p := range texts {
		if e := Check(p); e != errno(isPath(p)) {
			t.Fatalf("Check of %q: %v", p, e)
		}
		if got := len(Parts(p)); isPath(p) && got != 1+strings.Count(p, "/") || !isPath(p) && got != 0 {
			t.Fatalf("Parts of %q: %d", p, got)
		}
		for _, dir := range texts[:100] {
			if got := Under(p, dir); got != isUnder(p, dir) {
				t.Fatalf("%q under %q: %v", p, dir, got)
			}
		}
		if !Under(p, p) {
			t.Fatalf("%q is not under itself", p)
		}
	}
}

// lists are texts in rising, falling and mixed order, none, one, alike ones, and texts that are no paths.
func lists() map[string][]string {
	edges := []string{"", "\x00", "\x00\x00", "/", "A", "Z", "a", "a\x00", "a.b", "a/", "a/b", "a0", "aa", "é", "\xff", "\xff\xff"}
	return map[string][]string{
		"none":         nil,
		"one":          {"a"},
		"one of none":  {""},
		"rising":       edges,
		"falling":      reversed(edges),
		"mixed":        {"b", "", "aa", "a/b", "a", "a.b", "\xff", "a0", "B"},
		"alike":        {"x", "x", "x", "x"},
		"alike apart":  {"b", "a", "b", "", "a", "", "b"},
		"rising twice": slices.Concat(edges, edges),
		"there & back": slices.Concat(edges, reversed(edges)),
	}
}

func reversed(list []string) []string {
	turned := slices.Clone(list)
	slices.Reverse(turned)
	return turned
}

// sorted finds the least text that is greater than the last one, again and again.
func sorted(list []string) []string {
	var out []string
	for {
		best := -1
		for i, s := range list {
			if (len(out) == 0 || strings.Compare(s, out[len(out)-1]) > 0) && (best < 0 || strings.Compare(s, list[best]) < 0) {
				best = i
			}
		}
		if best < 0 {
			return out
		}
		out = append(out, list[best])
	}
}

// P3.2: Sort, byte by byte, a beginning of a text below it, each once.
func TestSort(t *testing.T) {
	wantTexts(t, "Sort", Sort("b", "a", "", "b"), "", "a", "b")
	wantTexts(t, "Sort", Sort("a/b", "a0", "a", "a.b", "a_b", "aa", "B", "\xff", "é"), "B", "a", "a.b", "a/b", "a0", "a_b", "aa", "é", "\xff")
	wantTexts(t, "Sort of none", Sort())
	wantTexts(t, "Sort of nil", Sort(nil...))
	wantTexts(t, "Sort of an empty list", Sort([]string{}...))
	for name, list := range lists() {
		wantTexts(t, name, Sort(list...), sorted(list)...)
	}
	for seed := range int64(200) {
		r := rand.New(rand.NewSource(seed))
		list := make([]string, r.Intn(30))
		for i := range list {
			for range r.Intn(4) {
				list[i] += []string{"a", "b", "/", ".", "\xff", "é"}[r.Intn(6)]
			}
		}
		wantTexts(t, "random", Sort(list...), sorted(list)...)
	}
}

// P3.3: those that are under no other one are left, of alike ones one.
func TestLimit(t *testing.T) {
	for _, c := range []struct{ paths, want []string }{
		{[]string{"a"}, []string{"a"}},
		{[]string{"a", "a"}, []string{"a"}},
		{[]string{"b", "a/x", "a", "b", "b0"}, []string{"a", "b", "b0"}},
		{[]string{"a/b", "a"}, []string{"a"}},
		{[]string{"a", "a/b"}, []string{"a"}},
		{[]string{"a/b", "a/b/c", "a/b/c/d", "a/bc"}, []string{"a/b", "a/bc"}},
		{[]string{"a/b/c/d/e/f", "a/b/c", "a"}, []string{"a"}},
		{[]string{"a/b", "a/c", "a/d"}, []string{"a/b", "a/c", "a/d"}},
		{[]string{"a/b", "a.b", "a0", "a_", "aa", "a"}, []string{"a", "a.b", "a0", "a_", "aa"}},
		{[]string{"a.b/c", "a/b", "a.b", "a"}, []string{"a", "a.b"}},
		{[]string{"c", "b", "a"}, []string{"a", "b", "c"}},
		{[]string{".", "./.", "../.", "_"}, []string{".", "../.", "_"}},
		{[]string{longest(), longest()}, []string{longest()}},
	} {
		wantTexts(t, strings.Join(c.paths, " "), limit(t, c.paths...).Paths(), c.want...)
		wantTexts(t, strings.Join(c.paths, " ")+" turned", limit(t, reversed(c.paths)...).Paths(), c.want...)
	}
}

func sixteen() []string { return strings.Split("p/g/h/a/b/c/d/e/f/i/j/k/l/m/n/o", "/") }

// P3.3: at most 16 paths, alike ones and those under others counted.
func TestLimitCounts(t *testing.T) {
	wantTexts(t, "16 paths", limit(t, sixteen()...).Paths(), Sort(sixteen()...)...)
	wantTexts(t, "15 paths", limit(t, sixteen()[1:]...).Paths(), Sort(sixteen()[1:]...)...)
	wantTexts(t, "16 alike ones", limit(t, slices.Repeat([]string{"a"}, 16)...).Paths(), "a")
	wantRefused(t, api.ErrLong, append(sixteen(), "q")...)
	wantRefused(t, api.ErrLong, append(sixteen(), "a")...)
	wantRefused(t, api.ErrLong, append(sixteen(), "a/b")...)
	wantRefused(t, api.ErrLong, slices.Repeat([]string{"a"}, 17)...)
	wantRefused(t, api.ErrLong, slices.Repeat([]string{"a"}, 1000)...)
}

// P3.3: ErrName of a text that is no path, wherever it stands; ErrLong ahead of it.
func TestLimitOfNoPaths(t *testing.T) {
	for _, bad := range noPaths() {
		if len(bad) > 1000 {
			bad = bad[:1000]
		}
		wantRefused(t, api.ErrName, bad)
		wantRefused(t, api.ErrName, bad, "a", "b")
		wantRefused(t, api.ErrName, "a", bad, "b")
		wantRefused(t, api.ErrName, "a", "b", bad)
		wantRefused(t, api.ErrName, append(sixteen()[1:], bad)...)
		wantRefused(t, api.ErrLong, append(sixteen(), bad)...)
		wantRefused(t, api.ErrLong, slices.Repeat([]string{bad}, 17)...)
	}
}

// P3.3, P3.4: the zero Set has every path, and so has a limit of none.
func TestSetWithoutPaths(t *testing.T) {
	var zero Set
	for _, s := range []Set{zero, limit(t), limit(t, nil...), limit(t, []string{}...)} {
		wantTexts(t, "Paths", s.Paths())
		for _, p := range paths() {
			wantHas(t, s, p, true)
		}
		for _, p := range noPaths() {
			wantHas(t, s, p, false)
		}
		if s.Any() || s.Any(nil...) || s.Any([]string{}...) || s.Any("", "/a") {
			t.Error("Any of no path")
		}
		if !s.Any("", "a") {
			t.Error("Any of one path")
		}
	}
}

// P3.4: a set has what is under one of its paths, and no text that is no path.
func TestHas(t *testing.T) {
	s := limit(t, "b/c", "a", "b0", "a/x")
	for _, p := range []string{"a", "a/x", "a/x/y", "a/b", "a/b/c/d/e/f", "b/c", "b/c/d", "b0", "b0/."} {
		wantHas(t, s, p, true)
	}
	for _, p := range []string{"b", "ab", "a.b", "a0", "b/cc", "b/d", "b0_", "c", "x", "x/a", "b/a", "c/b/c", "."} {
		wantHas(t, s, p, false)
	}
	for _, p := range []string{"a/", "a//b", "a/B", "a/b/c/d/e/f/g", "a/abcdefghijklmnopq", "a/b ", "b/c/", "b0/\x00", "a/\xff", "a/é"} {
		wantHas(t, s, p, false)
	}
	for _, p := range noPaths() {
		wantHas(t, s, p, false)
	}
}

// P3.4: Any asks for one of them, wherever it stands.
func TestAny(t *testing.T) {
	s := limit(t, "a", "b/c")
	for _, c := range []struct {
		paths []string
		want  bool
	}{
		{nil, false},
		{[]string{}, false},
		{[]string{"a"}, true},
		{[]string{"c", "d"}, false},
		{[]string{"a/x", "c", "d"}, true},
		{[]string{"c", "b/c/d", "d"}, true},
		{[]string{"c", "d", "a"}, true},
		{[]string{"c", "", "A", "a/", "b"}, false},
		{[]string{"", "a/", "b/c"}, true},
		{slices.Repeat([]string{"c"}, 100), false},
		{append(slices.Repeat([]string{"c"}, 100), "a"), true},
	} {
		if got := s.Any(c.paths...); got != c.want {
			t.Errorf("Any of %q: %v", c.paths, got)
		}
	}
}

// P3.3, P3.4: sets of random paths, held against the chapter's words.
func TestRandomSets(t *testing.T) {
	for seed := range int64(300) {
		r := rand.New(rand.NewSource(seed))
		given := make([]string, 1+r.Intn(16))
		for i := range given {
			given[i] = randomPath(r)
		}
		s := limit(t, given...)
		var want []string
		for _, p := range sorted(given) {
			if !slices.ContainsFunc(given, func(dir string) bool { return p != dir && isUnder(p, dir) }) {
				want = append(want, p)
			}
		}
		wantTexts(t, strings.Join(given, " "), s.Paths(), want...)
		asked := make([]string, 20)
		one := false
		for i := range asked {
			p := randomPath(r)
			has := slices.ContainsFunc(given, func(dir string) bool { return isUnder(p, dir) })
			wantHas(t, s, p, has)
			asked[i], one = p, one || has
		}
		if got := s.Any(asked...); got != one {
			t.Errorf("%q has any of %q: %v", given, asked, got)
		}
	}
}

func randomPath(r *rand.Rand) string {
	names := make([]string, 1+r.Intn(4))
	for i := range names {
		names[i] = []string{"a", "a.b", "b", "a0", "_"}[r.Intn(5)]
	}
	return strings.Join(names, "/")
}

// Rule 3: what is handed in is not changed, its spare room neither, and not kept.
func TestWhatIsHandedIn(t *testing.T) {
	given := []string{"b", "a/x", "a", "b", "a"}
	room := append(slices.Clone(given), "spare", "", "more")
	before := slices.Clone(room)
	handed := room[:len(given)]

	got := Sort(handed...)
	s := limit(t, handed...)
	s.Any(handed...)
	wantTexts(t, "handed in", room, before...)

	for i := range room {
		room[i] = "z"
	}
	wantTexts(t, "Sort", got, "a", "a/x", "b")
	wantTexts(t, "Paths", s.Paths(), "a", "b")
	wantHas(t, s, "z", false)
}

// Rule 3: an answer is new memory: to write into it, or behind it, changes no other answer and no set.
func TestAnswersApart(t *testing.T) {
	s := limit(t, "a", "b", "c")
	same := s
	for _, answer := range []func() []string{
		s.Paths,
		same.Paths,
		func() []string { return Parts("a/b/c") },
		func() []string { return Sort("b", "a", "c", "a") },
	} {
		first, second := answer(), answer()
		want := slices.Clone(second)
		first = append(first, "behind")
		for i := range first {
			first[i] = "z"
		}
		wantTexts(t, "the second", second, want...)
		wantTexts(t, "the third", answer(), want...)
	}
	wantHas(t, s, "z", false)
	wantHas(t, s, "a/b", true)
}

// Rule 4: a set is a value, and knows nothing of those made behind it.
func TestSetsApart(t *testing.T) {
	a := limit(t, "a")
	same := a
	b := limit(t, "b")
	wantTexts(t, "a", a.Paths(), "a")
	wantTexts(t, "the same", same.Paths(), "a")
	wantTexts(t, "b", b.Paths(), "b")
	wantHas(t, a, "b", false)
	wantHas(t, b, "a", false)
}
