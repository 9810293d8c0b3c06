package diff

import (
	"math"
	"math/rand"
	"slices"
	"strconv"
	"strings"
	"testing"

	"forebear/api"
)

const (
	least = math.MinInt
	most  = math.MaxInt
)

// of makes a list of one-byte lines.
func of(s string) []string {
	var lines []string
	for i := range len(s) {
		lines = append(lines, s[i:i+1])
	}
	return lines
}

// numbered makes n unlike lines.
func numbered(kind string, n int) []string {
	var lines []string
	for i := range n {
		lines = append(lines, kind+strconv.Itoa(i))
	}
	return lines
}

func sameHunk(g, h Hunk) bool {
	return g.A == h.A && g.B == h.B && slices.Equal(g.Gone, h.Gone) && slices.Equal(g.New, h.New)
}

// copyHunks has nothing in common with what it is made of, not even the spare room.
func copyHunks(hunks []Hunk) []Hunk {
	var copies []Hunk
	for _, h := range hunks {
		copies = append(copies, Hunk{h.A, h.B, append([]string(nil), h.Gone...), append([]string(nil), h.New...)})
	}
	return copies
}

func wantPairs(t *testing.T, a, b []string, want ...Pair) {
	t.Helper()
	if got, e := Match(a, b); e != api.OK || !slices.Equal(got, want) {
		t.Errorf("Match of %.200q and %.200q: %v, %v, want %v", a, b, got, e, want)
	}
}

func wantHunks(t *testing.T, a, b []string, want ...Hunk) {
	t.Helper()
	if got, e := Hunks(a, b); e != api.OK || !slices.EqualFunc(got, want, sameHunk) {
		t.Errorf("Hunks of %.200q and %.200q: %.400v, %v, want %.400v", a, b, got, e, want)
	}
}

func wantLines(t *testing.T, want, a []string, hunks ...Hunk) {
	t.Helper()
	if got, e := Apply(a, hunks...); e != api.OK || !slices.Equal(got, want) {
		t.Errorf("Apply to %.200q of %.400v: %.200q, %v, want %.200q", a, hunks, got, e, want)
	}
}

// wantRefused asks for an error, and for no lines beside it.
func wantRefused(t *testing.T, want api.Errno, a []string, hunks ...Hunk) {
	t.Helper()
	if got, e := Apply(a, hunks...); e != want || len(got) != 0 {
		t.Errorf("Apply to %.200q of %.400v: %.200q, %v, want %v", a, hunks, got, e, want)
	}
}

// leavings tells every list that is made of lines by leaving lines away.
func leavings(lines []string) [][]string {
	all := [][]string{nil}
	for _, line := range lines {
		for _, list := range slices.Clone(all) {
			all = append(all, append(slices.Clone(list), line))
		}
	}
	return all
}

// isLeft tells if a list can be made of lines by leaving lines away.
func isLeft(list, lines []string) bool {
	for _, line := range lines {
		if len(list) > 0 && list[0] == line {
			list = list[1:]
		}
	}
	return len(list) == 0
}

// greatest is L of what is left of two short lists, by trying everything.
func greatest(a, b []string) int {
	length := 0
	for _, list := range leavings(a) {
		if len(list) > length && isLeft(list, b) {
			length = len(list)
		}
	}
	return length
}

// reckoned is L of two longer lists, by an own way: ends[n] is the least end of lines of b of which n, in order, are in a.
func reckoned(a, b []string) int {
	ends := []int{0}
	for _, line := range a {
		for n := len(ends) - 1; n >= 0; n-- {
			next := slices.Index(b[ends[n]:], line)
			if next < 0 {
				continue
			}
			end := ends[n] + next + 1
			if n+1 == len(ends) {
				ends = append(ends, end)
			}
			ends[n+1] = min(ends[n+1], end)
		}
	}
	return len(ends) - 1
}

// matchOf goes by the chapter's words, with L as it is handed in.
func matchOf(a, b []string, l func(a, b []string) int) []Pair {
	var pairs []Pair
	i, j := 0, 0
	for i < len(a) && j < len(b) {
		if a[i] == b[j] {
			pairs = append(pairs, Pair{i, j})
			i, j = i+1, j+1
		} else if l(a[i+1:], b[j:]) >= l(a[i:], b[j+1:]) {
			i++
		} else {
			j++
		}
	}
	return pairs
}

// hunksOf goes through both lists, line by line, with what is in no pair.
func hunksOf(a, b []string, pairs []Pair) []Hunk {
	inA, inB := make([]bool, len(a)+1), make([]bool, len(b)+1)
	inA[len(a)], inB[len(b)] = true, true
	for _, p := range pairs {
		inA[p.A], inB[p.B] = true, true
	}
	var hunks []Hunk
	for i, j := 0, 0; i <= len(a); i, j = i+1, j+1 {
		h := Hunk{A: i, B: j}
		for ; !inA[i]; i++ {
			h.Gone = append(h.Gone, a[i])
		}
		for ; !inB[j]; j++ {
			h.New = append(h.New, b[j])
		}
		if len(h.Gone)+len(h.New) > 0 {
			hunks = append(hunks, h)
		}
	}
	return hunks
}

// turned tells the hunks that lead back.
func turned(hunks []Hunk) []Hunk {
	var back []Hunk
	for _, h := range hunks {
		back = append(back, Hunk{A: h.B, B: h.A, Gone: h.New, New: h.Gone})
	}
	return back
}

// wantAll holds all three calls against the words of the chapter. It ends a test that failed, lest thousands of lists are told.
func wantAll(t *testing.T, a, b []string, l func(a, b []string) int) {
	t.Helper()
	if t.Failed() {
		t.FailNow()
	}
	pairs := matchOf(a, b, l)
	if got := l(a, b); got != len(pairs) {
		t.Errorf("%.200q and %.200q: L(0, 0) is %d, of the pairs %v", a, b, got, pairs)
	}
	wantPairs(t, a, b, pairs...)
	hunks := hunksOf(a, b, pairs)
	wantHunks(t, a, b, hunks...)
	wantLines(t, b, a, hunks...)
	wantLines(t, a, b, turned(hunks)...)
}

// The chapter's examples.
func TestExamples(t *testing.T) {
	wantPairs(t, of("abc"), of("bxc"), Pair{1, 0}, Pair{2, 2})
	wantHunks(t, of("abc"), of("bxc"), Hunk{0, 0, of("a"), nil}, Hunk{2, 1, nil, of("x")})
	wantPairs(t, of("ab"), of("ba"), Pair{1, 0})
}

// P5.1: the match goes by the rule: alike lines are a pair at once, else the greater L decides, and the first list goes on where both are alike.
func TestMatch(t *testing.T) {
	for _, c := range []struct {
		a, b string
		want []Pair
	}{
		{"", "", nil},
		{"a", "", nil},
		{"", "a", nil},
		{"abc", "", nil},
		{"", "abc", nil},
		{"a", "a", []Pair{{0, 0}}},
		{"a", "b", nil},
		{"abc", "abc", []Pair{{0, 0}, {1, 1}, {2, 2}}},
		{"abc", "xyz", nil},
		{"abc", "xy", nil},
		{"abc", "cba", []Pair{{2, 0}}},
		{"ba", "ab", []Pair{{1, 0}}},
		{"xab", "aby", []Pair{{1, 0}, {2, 1}}},
		{"aby", "xab", []Pair{{0, 1}, {1, 2}}},
		{"abc", "cab", []Pair{{0, 1}, {1, 2}}},
		{"cab", "abc", []Pair{{1, 0}, {2, 1}}},
		{"aa", "a", []Pair{{0, 0}}},
		{"a", "aa", []Pair{{0, 0}}},
		{"aaaa", "aa", []Pair{{0, 0}, {1, 1}}},
		{"aaba", "baaa", []Pair{{0, 1}, {1, 2}, {3, 3}}},
		{"abab", "baba", []Pair{{1, 0}, {2, 1}, {3, 2}}},
		{"axb", "abyb", []Pair{{0, 0}, {2, 1}}},
		{"abcabba", "cbabac", []Pair{{2, 0}, {4, 1}, {5, 3}, {6, 4}}},
		{"abcdef", "fedcba", []Pair{{5, 0}}},
		{"pqa", "arsa", []Pair{{2, 0}}},
	} {
		wantPairs(t, of(c.a), of(c.b), c.want...)
		wantAll(t, of(c.a), of(c.b), greatest)
	}
	wantPairs(t, nil, nil)
	wantPairs(t, []string{}, []string{})
}

// P5.1: places where L(i + 1, j) is the greater, where L(i, j + 1) is, and where they are alike.
func TestMatchDecides(t *testing.T) {
	for _, c := range []struct {
		a, b        string
		first, next int
		want        []Pair
	}{
		{"xab", "abx", 2, 1, []Pair{{1, 0}, {2, 1}}},
		{"abx", "xab", 1, 2, []Pair{{0, 1}, {1, 2}}},
		{"ab", "ba", 1, 1, []Pair{{1, 0}}},
		{"abba", "baab", 2, 2, []Pair{{1, 0}, {3, 1}}},
	} {
		a, b := of(c.a), of(c.b)
		if x, y := greatest(a[1:], b), greatest(a, b[1:]); x != c.first || y != c.next {
			t.Errorf("%s and %s: L(1, 0) is %d, L(0, 1) is %d", c.a, c.b, x, y)
		}
		wantPairs(t, a, b, c.want...)
	}
}

// P5.1 to P5.3: all lists of up to 4 lines of 3 kinds, each against each.
func TestAllShortLists(t *testing.T) {
	lists := [][]string{nil}
	for from := 0; len(lists[from]) < 4; from++ {
		for _, line := range []string{"a", "b", ""} {
			lists = append(lists, append(slices.Clone(lists[from]), line))
		}
	}
	for _, a := range lists {
		for _, b := range lists {
			wantAll(t, a, b, greatest)
		}
	}
}

// P5.1 to P5.3: random lists of few and of many kinds of lines.
func TestRandomLists(t *testing.T) {
	for seed := range int64(300) {
		r := rand.New(rand.NewSource(seed))
		kinds := 1 + r.Intn(12)
		lists := make([][]string, 2)
		for i := range lists {
			for range r.Intn(30) {
				lists[i] = append(lists[i], strconv.Itoa(r.Intn(kinds)))
			}
		}
		wantAll(t, lists[0], lists[1], reckoned)
	}
}

// P5.1 to P5.3: a list and what some changes made of it.
func TestChangedLists(t *testing.T) {
	for seed := range int64(100) {
		r := rand.New(rand.NewSource(seed))
		a := numbered("", 20+r.Intn(20))
		b := slices.Clone(a)
		for n := range r.Intn(6) {
			at := r.Intn(len(b))
			switch r.Intn(3) {
			case 0:
				b = slices.Delete(b, at, at+1)
			case 1:
				b = slices.Insert(b, at, "new"+strconv.Itoa(n))
			default:
				b[at] = b[r.Intn(len(b))]
			}
		}
		wantAll(t, a, b, reckoned)
	}
}

// P5.1, P5.2: lines are alike if all their bytes are, and nothing is cut off or folded.
func TestAnyBytes(t *testing.T) {
	unlike := []string{
		"", " ", "a", "A", "a ", " a", "a\n", "\n", "a\r\n", "\r", "a\x00", "\x00", "\x00\x00", "\xff", "\xc3", "\xc3\xa9", "e\xcc\x81", "\xef\xbf\xbd", "\xfe",
		strings.Repeat("b", 5000), strings.Repeat("b", 5000) + "c", "c" + strings.Repeat("b", 5000),
	}
	for i, x := range unlike {
		for j, y := range unlike {
			if i == j {
				wantPairs(t, []string{x}, []string{y}, Pair{0, 0})
				wantHunks(t, []string{x}, []string{y})
			} else {
				wantPairs(t, []string{x}, []string{y})
				wantHunks(t, []string{x}, []string{y}, Hunk{0, 0, []string{x}, []string{y}})
				wantRefused(t, api.ErrForm, []string{x}, Hunk{Gone: []string{y}})
			}
			wantLines(t, []string{y}, []string{x}, Hunk{Gone: []string{x}, New: []string{y}})
		}
	}
	for b := range 256 {
		one := string([]byte{byte(b)})
		wantPairs(t, []string{"other", one}, []string{one}, Pair{1, 0})
		wantPairs(t, []string{one}, []string{string([]byte{byte(b + 1)})})
	}
	wantPairs(t, []string{"", "a", ""}, []string{"", ""}, Pair{0, 0}, Pair{2, 1})
	wantHunks(t, []string{"", "a", ""}, []string{"", ""}, Hunk{1, 1, of("a"), nil})
	wantHunks(t, nil, []string{""}, Hunk{0, 0, nil, []string{""}})
	wantPairs(t, []string{"ab", "c"}, []string{"a", "bc"})
}

// P5.1, P5.2: MaxLines lines are not too many, in the first list, the second, or both; one more is.
func TestBounds(t *testing.T) {
	counts := []int{0, 1, 255, 256, 257, 258, 1000}
	for _, n := range counts {
		for _, m := range counts {
			a, b := numbered("l", n), numbered("l", m)
			pairs, e := Match(a, b)
			hunks, f := Hunks(a, b)
			if n > 256 || m > 256 {
				if e != api.ErrLong || f != api.ErrLong || len(pairs) != 0 || len(hunks) != 0 {
					t.Errorf("%d and %d lines: %v, %v, %v, %v", n, m, len(pairs), e, len(hunks), f)
				}
				continue
			}
			low := min(n, m)
			if e != api.OK || len(pairs) != low || low > 0 && pairs[low-1] != (Pair{low - 1, low - 1}) {
				t.Errorf("%d and %d lines: %v, %v", n, m, pairs, e)
			}
			if n == m {
				wantHunks(t, a, b)
			} else {
				wantHunks(t, a, b, Hunk{low, low, a[low:], b[low:]})
			}
		}
	}
}

// P5.1, P5.2: the longest lists: of alike lines, with nothing shared, turned, and moved on by one.
func TestLongLists(t *testing.T) {
	a, b := numbered("a", 256), numbered("b", 256)
	wantPairs(t, a, b)
	wantHunks(t, a, b, Hunk{0, 0, a, b})
	wantHunks(t, a, nil, Hunk{0, 0, a, nil})
	wantHunks(t, nil, b, Hunk{0, 0, nil, b})

	back := slices.Clone(a)
	slices.Reverse(back)
	wantPairs(t, a, back, Pair{255, 0})
	wantHunks(t, a, back, Hunk{0, 0, a[:255], nil}, Hunk{256, 1, nil, back[1:]})

	moved := slices.Concat(a[1:], a[:1])
	var pairs []Pair
	for i := range 255 {
		pairs = append(pairs, Pair{i + 1, i})
	}
	wantPairs(t, a, moved, pairs...)
	wantHunks(t, a, moved, Hunk{0, 0, a[:1], nil}, Hunk{256, 255, nil, a[:1]})
	wantHunks(t, moved, a, Hunk{0, 0, nil, a[:1]}, Hunk{255, 256, a[:1], nil})

	same := make([]string, 256)
	if pairs, e := Match(same, same[:200]); e != api.OK || len(pairs) != 200 || pairs[199] != (Pair{199, 199}) {
		t.Errorf("empty lines: %v, %v", pairs, e)
	}
	wantHunks(t, same, same[:200], Hunk{200, 200, same[:56], nil})
	for seed := range int64(2) {
		r := rand.New(rand.NewSource(seed))
		x, y := make([]string, 256), make([]string, 255)
		for i := range y {
			x[i], y[i] = strconv.Itoa(r.Intn(40)), strconv.Itoa(r.Intn(40))
		}
		wantAll(t, x[:120], y[:110], reckoned)
		hunks, e := Hunks(x, y)
		if e != api.OK {
			t.Errorf("Hunks: %v", e)
		}
		wantLines(t, y, x, hunks...)
	}
}

// P5.2: a hunk stands in front of the first pair, between two, or behind the last one, and has all lines there.
func TestHunks(t *testing.T) {
	for _, c := range []struct {
		a, b string
		want []Hunk
	}{
		{"", "", nil},
		{"a", "a", nil},
		{"abc", "abc", nil},
		{"a", "", []Hunk{{0, 0, of("a"), nil}}},
		{"", "a", []Hunk{{0, 0, nil, of("a")}}},
		{"abc", "", []Hunk{{0, 0, of("abc"), nil}}},
		{"", "abc", []Hunk{{0, 0, nil, of("abc")}}},
		{"a", "b", []Hunk{{0, 0, of("a"), of("b")}}},
		{"abc", "xy", []Hunk{{0, 0, of("abc"), of("xy")}}},
		{"xa", "a", []Hunk{{0, 0, of("x"), nil}}},
		{"a", "xa", []Hunk{{0, 0, nil, of("x")}}},
		{"xa", "ya", []Hunk{{0, 0, of("x"), of("y")}}},
		{"ax", "a", []Hunk{{1, 1, of("x"), nil}}},
		{"a", "ax", []Hunk{{1, 1, nil, of("x")}}},
		{"ax", "ay", []Hunk{{1, 1, of("x"), of("y")}}},
		{"axb", "ab", []Hunk{{1, 1, of("x"), nil}}},
		{"ab", "axb", []Hunk{{1, 1, nil, of("x")}}},
		{"axxb", "ayb", []Hunk{{1, 1, of("xx"), of("y")}}},
		{"ab", "ba", []Hunk{{0, 0, of("a"), nil}, {2, 1, nil, of("a")}}},
		{"xaybz", "pqarsbtu", []Hunk{{0, 0, of("x"), of("pq")}, {2, 3, of("y"), of("rs")}, {4, 6, of("z"), of("tu")}}},
		{"pqarsbtu", "xaybz", []Hunk{{0, 0, of("pq"), of("x")}, {3, 2, of("rs"), of("y")}, {6, 4, of("tu"), of("z")}}},
		{"axbc", "abyc", []Hunk{{1, 1, of("x"), nil}, {3, 2, nil, of("y")}}},
	} {
		wantHunks(t, of(c.a), of(c.b), c.want...)
		wantLines(t, of(c.b), of(c.a), c.want...)
	}
	wantHunks(t, nil, nil)
	wantHunks(t, []string{}, []string{})
}

// P5.3: hunks that fit, with lines gone, new, both or neither, in front of the first line, behind the last one, and next to each other.
func TestApply(t *testing.T) {
	a := of("abcd")
	for _, c := range []struct {
		want  string
		hunks []Hunk
	}{
		{"abcd", nil},
		{"abcd", []Hunk{}},
		{"abcd", []Hunk{{}}},
		{"abcd", []Hunk{{Gone: []string{}, New: []string{}}}},
		{"abcd", []Hunk{{}, {}, {}}},
		{"abcd", []Hunk{{2, 2, nil, nil}}},
		{"abcd", []Hunk{{4, 4, nil, nil}}},
		{"abcd", []Hunk{{0, 0, nil, nil}, {1, 1, nil, nil}, {4, 4, nil, nil}, {4, 4, nil, nil}}},
		{"abcd", []Hunk{{1, 1, of("bc"), of("bc")}}},
		{"xabcd", []Hunk{{0, 0, nil, of("x")}}},
		{"abcdx", []Hunk{{4, 4, nil, of("x")}}},
		{"abxycd", []Hunk{{2, 2, nil, of("xy")}}},
		{"bcd", []Hunk{{0, 0, of("a"), nil}}},
		{"abc", []Hunk{{3, 3, of("d"), nil}}},
		{"ad", []Hunk{{1, 1, of("bc"), nil}}},
		{"", []Hunk{{0, 0, of("abcd"), nil}}},
		{"xyz", []Hunk{{0, 0, of("abcd"), of("xyz")}}},
		{"axd", []Hunk{{1, 1, of("bc"), of("x")}}},
		{"xycd", []Hunk{{0, 0, of("a"), of("x")}, {1, 1, of("b"), of("y")}}},
		{"cd", []Hunk{{0, 0, of("a"), nil}, {1, 0, of("b"), nil}}},
		{"xyabcd", []Hunk{{0, 0, nil, of("x")}, {0, 1, nil, of("y")}}},
		{"abcdxy", []Hunk{{4, 4, nil, of("x")}, {4, 5, nil, of("y")}}},
		{"xybcd", []Hunk{{0, 0, nil, of("x")}, {0, 1, of("a"), of("y")}}},
		{"xybcd", []Hunk{{0, 0, of("a"), of("x")}, {1, 1, nil, of("y")}}},
		{"xbyyd", []Hunk{{0, 0, of("a"), of("x")}, {2, 2, of("c"), of("yy")}}},
		{"bd", []Hunk{{0, 0, of("a"), nil}, {2, 1, of("c"), nil}}},
		{"xxabyycd", []Hunk{{0, 0, nil, of("xx")}, {2, 4, nil, of("yy")}}},
		{"xaydz", []Hunk{{0, 0, nil, of("x")}, {1, 2, of("bc"), of("y")}, {4, 4, nil, of("z")}}},
		{"xyz", []Hunk{{0, 0, nil, of("x")}, {0, 1, of("abcd"), of("y")}, {4, 2, nil, of("z")}}},
	} {
		wantLines(t, of(c.want), a, c.hunks...)
	}
	wantLines(t, nil, nil)
	wantLines(t, nil, nil, Hunk{}, Hunk{})
	wantLines(t, of("xy"), nil, Hunk{New: of("x")}, Hunk{B: 1, New: of("y")})
	wantLines(t, []string{"", ""}, []string{"", "", ""}, Hunk{1, 1, []string{""}, nil})
}

// P5.3: of all places A and B that one hunk may tell, one B fits to an A from 0 to how many lines there are, and none to another A.
func TestPlaces(t *testing.T) {
	a := of("abc")
	places := []int{least, least + 1, -257, -4, -3, -2, -1, 0, 1, 2, 3, 4, 5, 6, 256, 257, 1 << 31, 1 << 32, most - 1, most}
	for _, at := range places {
		for _, to := range places {
			for _, h := range []Hunk{{A: at, B: to}, {A: at, B: to, New: of("xy")}} {
				if at < 0 || at > 3 || at != to {
					wantRefused(t, api.ErrForm, a, h)
				} else {
					wantLines(t, slices.Insert(slices.Clone(a), at, h.New...), a, h)
				}
				// Behind two lines gone and one new, B is one below A.
				second := append([]Hunk{{0, 0, of("ab"), of("z")}}, h)
				if at < 2 || at > 3 || to != at-1 {
					wantRefused(t, api.ErrForm, a, second...)
				} else {
					wantLines(t, slices.Insert(of("zc"), to, h.New...), a, second...)
				}
			}
		}
		if at != 0 {
			wantRefused(t, api.ErrForm, nil, Hunk{A: at})
			wantRefused(t, api.ErrForm, nil, Hunk{B: at})
			wantRefused(t, api.ErrForm, nil, Hunk{A: at, B: at})
		}
	}
}

// P5.3: Gone are the lines of a from A on: not others, not in another order, not more than there are.
func TestGone(t *testing.T) {
	a := of("abcab")
	for _, h := range []Hunk{
		{0, 0, of("b"), nil},
		{1, 1, of("a"), nil},
		{0, 0, of("xbcab"), nil},
		{0, 0, of("abxab"), nil},
		{0, 0, of("abcax"), nil},
		{0, 0, of("ba"), nil},
		{0, 0, of("ac"), nil},
		{0, 0, []string{"A"}, nil},
		{0, 0, []string{"ab"}, nil},
		{0, 0, []string{""}, nil},
		{0, 0, of("abcabc"), nil},
		{3, 3, of("abc"), nil},
		{4, 4, of("ba"), nil},
		{5, 5, of("a"), nil},
		{5, 5, []string{""}, nil},
	} {
		wantRefused(t, api.ErrForm, a, h)
		wantRefused(t, api.ErrForm, a, Hunk{}, h)
		wantRefused(t, api.ErrForm, a, h, Hunk{5, 5, nil, nil})
		h.New = of("x")
		wantRefused(t, api.ErrForm, a, h)
	}
	wantLines(t, of("abb"), a, Hunk{2, 2, of("ca"), nil})
	wantRefused(t, api.ErrForm, nil, Hunk{Gone: of("a")})
	wantRefused(t, api.ErrForm, nil, Hunk{Gone: []string{""}})
	wantRefused(t, api.ErrForm, a[:2], Hunk{Gone: a[:3]})
	wantRefused(t, api.ErrForm, a, Hunk{Gone: make([]string, 100000)})
}

// P5.3: a hunk begins where the one ahead ends, or behind that, and its B tells what those ahead of it did.
func TestOrder(t *testing.T) {
	a := of("abcd")
	for _, hunks := range [][]Hunk{
		{{2, 2, nil, of("x")}, {0, 0, nil, of("y")}},
		{{2, 2, nil, of("x")}, {0, 1, nil, of("y")}},
		{{2, 2, nil, of("x")}, {1, 2, nil, of("y")}},
		{{2, 2, nil, nil}, {1, 1, nil, nil}},
		{{0, 0, of("ab"), nil}, {1, 0, of("b"), nil}},
		{{0, 0, of("ab"), nil}, {1, -1, nil, nil}},
		{{0, 0, of("ab"), of("ab")}, {1, 1, nil, nil}},
		{{0, 0, of("ab"), of("ab")}, {0, 2, of("ab"), nil}},
		{{0, 0, of("abcd"), nil}, {3, 0, of("d"), nil}},
		{{0, 0, of("a"), nil}, {2, 2, of("c"), nil}},
		{{0, 0, of("a"), nil}, {2, 0, of("c"), nil}},
		{{0, 0, nil, of("x")}, {2, 2, of("c"), nil}},
		{{0, 0, nil, of("x")}, {2, 4, of("c"), nil}},
		{{0, 0, nil, of("x")}, {0, 0, nil, of("y")}},
		{{4, 4, of("x"), nil}, {5, 5, nil, nil}},
		{{0, 0, nil, of("x")}, {1, 2, of("b"), nil}, {4, 5, nil, nil}},
		{{0, 0, nil, of("x")}, {1, 2, of("b"), nil}, {1, 2, nil, nil}},
	} {
		wantRefused(t, api.ErrForm, a, hunks...)
	}
	hunks, e := Hunks(of("xaybz"), of("pqarsbtu"))
	if e != api.OK || len(hunks) != 3 {
		t.Fatalf("%v, %v", hunks, e)
	}
	for i := range hunks {
		for j := range i {
			mixed := slices.Clone(hunks)
			mixed[i], mixed[j] = mixed[j], mixed[i]
			wantRefused(t, api.ErrForm, of("xaybz"), mixed...)
		}
		wantRefused(t, api.ErrForm, of("xaybz"), slices.Insert(slices.Clone(hunks), i, hunks[i])...)
		wrong := slices.Clone(hunks)
		for _, by := range []int{-1, 1, 256, least, most} {
			wrong[i] = hunks[i]
			wrong[i].A += by
			wantRefused(t, api.ErrForm, of("xaybz"), wrong...)
			wrong[i] = hunks[i]
			wrong[i].B += by
			wantRefused(t, api.ErrForm, of("xaybz"), wrong...)
		}
	}
}

// P5.3: the answer has at most MaxLines lines; what it would have on the way there doesn't matter.
func TestLongAnswers(t *testing.T) {
	a, b := numbered("a", 256), numbered("b", 257)
	wantLines(t, a, a)
	wantLines(t, a, a, Hunk{256, 256, nil, nil})
	wantLines(t, a, nil, Hunk{New: a})
	wantLines(t, b[:256], a, Hunk{0, 0, a, b[:256]})
	wantRefused(t, api.ErrLong, a, Hunk{0, 0, a, b})
	wantRefused(t, api.ErrLong, nil, Hunk{New: b})
	wantRefused(t, api.ErrLong, nil, Hunk{New: make([]string, 1<<20)})
	for _, at := range []int{0, 1, 128, 254, 255} {
		wantRefused(t, api.ErrLong, a, Hunk{at, at, nil, b[:1]})
		wantLines(t, slices.Concat(a[:at], b[:1], a[at+1:]), a, Hunk{at, at, a[at : at+1], b[:1]})
		wantRefused(t, api.ErrLong, a, Hunk{at, at, a[at : at+1], b[:2]})
		wantLines(t, slices.Concat(a[:at], b[:1], a[at:255]), a[:255], Hunk{at, at, nil, b[:1]})
		wantRefused(t, api.ErrLong, a[:255], Hunk{at, at, nil, b[:2]})
	}
	wantRefused(t, api.ErrLong, a, Hunk{256, 256, nil, b[:1]})
	wantLines(t, slices.Concat(b[:10], a[:246]), a, Hunk{0, 0, nil, b[:10]}, Hunk{246, 256, a[246:], nil})
	wantLines(t, slices.Concat(b[:10], a[:245], a[255:]), a, Hunk{0, 0, nil, b[:10]}, Hunk{245, 255, a[245:255], nil}, Hunk{256, 256, nil, nil})
	wantLines(t, b[:256], a, Hunk{0, 0, nil, b[:256]}, Hunk{0, 256, a, nil})
	wantLines(t, b[:256], a, Hunk{0, 0, a, nil}, Hunk{256, 0, nil, b[:256]})
	wantRefused(t, api.ErrLong, a, Hunk{0, 0, nil, b[:10]}, Hunk{247, 257, a[247:], nil})
	wantRefused(t, api.ErrLong, a, Hunk{0, 0, nil, b[:1]}, Hunk{256, 257, nil, b[:1]})
	wantRefused(t, api.ErrLong, nil, Hunk{New: b[:128]}, Hunk{0, 128, nil, b[:129]})
}

// P5.3: of two errors the first named one: too long a list, then a hunk that doesn't fit, then too long an answer.
func TestFirstError(t *testing.T) {
	a, b := numbered("a", 257), numbered("b", 257)
	wrong := []Hunk{{A: -1, B: -1}, {A: 1000, B: 1000}, {A: 1}, {B: 1}, {Gone: of("x")}, {A: least, B: most}}
	wantRefused(t, api.ErrLong, a)
	wantRefused(t, api.ErrLong, a, Hunk{})
	wantRefused(t, api.ErrLong, a, Hunk{0, 0, a, nil})
	wantRefused(t, api.ErrLong, a, Hunk{0, 0, a[:1], nil})
	for _, h := range wrong {
		wantRefused(t, api.ErrLong, a, h)
		wantRefused(t, api.ErrForm, a[:256], h)
		wantRefused(t, api.ErrForm, a[:256], h, Hunk{0, 0, nil, b})
		wantRefused(t, api.ErrForm, a[:256], Hunk{0, 0, nil, b}, h)
		wantRefused(t, api.ErrForm, nil, Hunk{0, 0, nil, b}, Hunk{0, 257, nil, b}, h)
		h.New = b
		wantRefused(t, api.ErrLong, a, h)
		wantRefused(t, api.ErrForm, a[:256], h)
	}
	wantRefused(t, api.ErrForm, a[:256], Hunk{0, 0, nil, b}, Hunk{256, 512, nil, b})
	wantRefused(t, api.ErrLong, a[:256], Hunk{0, 0, nil, b}, Hunk{256, 513, nil, b})
}

// Rule 3: what is handed in is not changed, its spare room neither, and not kept.
func TestWhatIsHandedIn(t *testing.T) {
	a, b := of("abcdSPARE"), of("bxcSPARE")
	keptA, keptB := slices.Clone(a), slices.Clone(b)
	pairs, _ := Match(a[:4], b[:3])
	hunks, _ := Hunks(a[:4], b[:3])
	gone, fresh := of("aSPARE"), of("yzSPARE")
	given := []Hunk{{0, 0, gone[:1], fresh[:2]}, {2, 3, nil, fresh[:1]}, {9, 9, gone, fresh}}
	keptGiven := copyHunks(given)
	lines, _ := Apply(a[:4], given[:2]...)
	Apply(a[:4], given...)
	Apply(a[:0], Hunk{New: fresh[:2]})
	Apply(a[:4])
	if !slices.Equal(a, keptA) || !slices.Equal(b, keptB) || !slices.EqualFunc(given, keptGiven, sameHunk) ||
		!slices.Equal(gone, of("aSPARE")) || !slices.Equal(fresh, of("yzSPARE")) {
		t.Errorf("handed in, and changed: %q, %q, %v, %q, %q", a, b, given, gone, fresh)
	}

	same, _ := Apply(keptA)
	clear(a)
	clear(b)
	clear(gone)
	clear(fresh)
	clear(given)
	clear(keptA)
	want := []Hunk{{0, 0, of("a"), nil}, {2, 1, nil, of("x")}, {3, 3, of("d"), nil}}
	if !slices.Equal(pairs, []Pair{{1, 0}, {2, 2}}) || !slices.EqualFunc(hunks, want, sameHunk) ||
		!slices.Equal(lines, of("yzbycd")) || !slices.Equal(same, of("abcdSPARE")) {
		t.Errorf("answered, and changed: %v, %v, %q, %q", pairs, hunks, lines, same)
	}
}

// Rule 3: answers are new memory: to write into one list of them, or behind it, changes no other, nor what was handed in.
func TestAnswersApart(t *testing.T) {
	a, b := of("xaybz"), of("pqarsbtu")
	pairs, _ := Match(a, b)
	hunks, _ := Hunks(a, b)
	for i := range hunks {
		want := copyHunks(hunks)
		gone, fresh := append(hunks[i].Gone, "behind"), append(hunks[i].New, "behind")
		clear(gone)
		clear(hunks[i].Gone)
		if !slices.Equal(hunks[i].New, want[i].New) {
			t.Errorf("New of the hunk %d: %q, want %q", i, hunks[i].New, want[i].New)
		}
		clear(fresh)
		clear(hunks[i].New)
		for j := i + 1; j < len(hunks); j++ {
			if !sameHunk(hunks[j], want[j]) {
				t.Errorf("the hunk %d: %v, want %v", j, hunks[j], want[j])
			}
		}
	}
	clear(append(pairs, Pair{9, 9}))
	for _, given := range [][]Hunk{nil, {{}}, {{5, 5, nil, of("n")}}, {{0, 0, a, b}}} {
		kept := copyHunks(given)
		lines, _ := Apply(a, given...)
		clear(append(lines, "behind"))
		clear(lines)
		if !slices.EqualFunc(given, kept, sameHunk) {
			t.Errorf("hunks, behind what was written into the answer: %v", given)
		}
	}
	if !slices.Equal(a, of("xaybz")) || !slices.Equal(b, of("pqarsbtu")) {
		t.Errorf("handed in, and changed: %q, %q", a, b)
	}
	wantAll(t, a, b, greatest)
}
