package object

import (
	"bytes"
	"encoding/binary"
	"encoding/hex"
	"fmt"
	"hash/fnv"
	"math"
	"math/rand"
	"regexp"
	"slices"
	"strings"
	"testing"
	"unsafe"

	"forebear/api"
	"forebear/sum"
)

// What a path is, by the words of chapter 3.
var pathForm = regexp.MustCompile(`\A[a-z0-9_.]{1,16}(/[a-z0-9_.]{1,16}){0,5}\z`)

func plainUnder(p, dir string) bool { return p == dir || strings.HasPrefix(p, dir+"/") }

// plainTreeError is Tree's error by the chapter's words, each two entries held against each other.
func plainTreeError(entries []api.Entry) api.Errno {
	if len(entries) > 64 {
		return api.ErrLong
	}
	for _, x := range entries {
		if !pathForm.MatchString(x.Path) {
			return api.ErrName
		}
	}
	for i, x := range entries {
		for j, y := range entries {
			if i < j && !(x.Path < y.Path) || i != j && plainUnder(x.Path, y.Path) {
				return api.ErrTree
			}
		}
	}
	return api.OK
}

func plainTreeBytes(entries []api.Entry) []byte {
	var b []byte
	for _, x := range entries {
		b = append(b, byte(len(x.Path)))
		b = append(b, x.Path...)
		b = binary.BigEndian.AppendUint64(b, uint64(x.Blob))
	}
	return b
}

// plainReadTree cuts b wherever it says, and takes what is a tree then.
func plainReadTree(b []byte) ([]api.Entry, bool) {
	var entries []api.Entry
	for at := 0; at < len(b); {
		end := at + 1 + int(b[at])
		if end+8 > len(b) {
			return nil, false
		}
		entries = append(entries, api.Entry{Path: string(b[at+1 : end]), Blob: api.ID(binary.BigEndian.Uint64(b[end:]))})
		at = end + 8
	}
	return entries, plainTreeError(entries) == api.OK
}

func plainCommitError(c api.Commit) api.Errno {
	if len(c.Parents) > 8 || len(c.Note) > 64 {
		return api.ErrLong
	}
	for i, p := range c.Parents {
		for j, q := range c.Parents {
			if i != j && p == q {
				return api.ErrTwice
			}
		}
	}
	if c.Date < 0 || c.Date > 1099511627776 {
		return api.ErrRange
	}
	return api.OK
}

func plainCommitBytes(c api.Commit) []byte {
	b := binary.BigEndian.AppendUint64(nil, uint64(c.Tree))
	b = append(b, byte(len(c.Parents)))
	for _, p := range c.Parents {
		b = binary.BigEndian.AppendUint64(b, uint64(p))
	}
	b = binary.BigEndian.AppendUint64(b, uint64(c.Date))
	b = append(b, byte(len(c.Note)))
	return append(b, c.Note...)
}

// plainReadCommit reckons where each part stands, and takes what is a commit then.
func plainReadCommit(b []byte) (api.Commit, bool) {
	if len(b) < 9 {
		return api.Commit{}, false
	}
	date := 9 + 8*int(b[8])
	if len(b) < date+9 || len(b) != date+9+int(b[date+8]) {
		return api.Commit{}, false
	}
	c := api.Commit{Tree: api.ID(binary.BigEndian.Uint64(b)), Note: string(b[date+9:])}
	for at := 9; at < date; at += 8 {
		c.Parents = append(c.Parents, api.ID(binary.BigEndian.Uint64(b[at:])))
	}
	stamp := binary.BigEndian.Uint64(b[date:])
	if stamp > 1<<40 {
		return api.Commit{}, false
	}
	c.Date = int64(stamp)
	return c, plainCommitError(c) == api.OK
}

func sameCommit(a, b api.Commit) bool {
	return a.Tree == b.Tree && slices.Equal(a.Parents, b.Parents) && a.Date == b.Date && a.Note == b.Note
}

// short tells a long thing in few signs.
func short(x any) string {
	s := fmt.Sprintf("%+q", fmt.Sprintf("%+v", x))
	if b, ok := x.([]byte); ok {
		s = hex.EncodeToString(b)
	}
	if len(s) > 300 {
		return fmt.Sprintf("%s .. (%d signs)", s[:300], len(s))
	}
	return s
}

func wantTree(t *testing.T, entries []api.Entry, want []byte) {
	t.Helper()
	if b, e := Tree(entries...); e != api.OK || !bytes.Equal(b, want) {
		t.Errorf("Tree of %s: %s, %v, want %s", short(entries), short(b), e, short(want))
	}
}

func wantNoTree(t *testing.T, entries []api.Entry, want api.Errno) {
	t.Helper()
	if b, e := Tree(entries...); e != want || len(b) != 0 {
		t.Errorf("Tree of %s: %s, %v, want none, %v", short(entries), short(b), e, want)
	}
}

func wantRead(t *testing.T, b []byte, want []api.Entry) {
	t.Helper()
	if entries, e := ReadTree(b); e != api.OK || !slices.Equal(entries, want) {
		t.Errorf("ReadTree of %s: %s, %v, want %s", short(b), short(entries), e, short(want))
	}
}

func wantNotRead(t *testing.T, b []byte) {
	t.Helper()
	if entries, e := ReadTree(b); e != api.ErrForm || len(entries) != 0 {
		t.Errorf("ReadTree of %s: %s, %v, want none, %v", short(b), short(entries), e, api.ErrForm)
	}
}

func wantCommit(t *testing.T, c api.Commit, want []byte) {
	t.Helper()
	if b, e := Commit(c); e != api.OK || !bytes.Equal(b, want) {
		t.Errorf("Commit of %s: %s, %v, want %s", short(c), short(b), e, short(want))
	}
}

func wantNoCommit(t *testing.T, c api.Commit, want api.Errno) {
	t.Helper()
	if b, e := Commit(c); e != want || len(b) != 0 {
		t.Errorf("Commit of %s: %s, %v, want none, %v", short(c), short(b), e, want)
	}
}

func wantReadCommit(t *testing.T, b []byte, want api.Commit) {
	t.Helper()
	if c, e := ReadCommit(b); e != api.OK || !sameCommit(c, want) {
		t.Errorf("ReadCommit of %s: %s, %v, want %s", short(b), short(c), e, short(want))
	}
}

func wantNoReadCommit(t *testing.T, b []byte) {
	t.Helper()
	if c, e := ReadCommit(b); e != api.ErrForm || c.Tree != 0 || len(c.Parents) != 0 || c.Date != 0 || c.Note != "" {
		t.Errorf("ReadCommit of %s: %s, %v, want none, %v", short(b), short(c), e, api.ErrForm)
	}
}

// wantAsTold holds both readers against what the chapter's words make of b, and whether what they read is written as it stood. It tells which of them took b.
func wantAsTold(t *testing.T, b []byte) (tree, commit bool) {
	t.Helper()
	entries, tree := plainReadTree(b)
	if tree {
		wantRead(t, b, entries)
		read, _ := ReadTree(b)
		wantTree(t, read, b)
	} else {
		wantNotRead(t, b)
	}
	c, commit := plainReadCommit(b)
	if commit {
		wantReadCommit(t, b, c)
		read, _ := ReadCommit(b)
		wantCommit(t, read, b)
	} else {
		wantNoReadCommit(t, b)
	}
	return tree, commit
}

// tree are entries of these paths, with Blobs that are not alike.
func tree(paths ...string) []api.Entry {
	var entries []api.Entry
	for i, p := range paths {
		entries = append(entries, api.Entry{Path: p, Blob: api.ID(i)*0x0123456789abcdef + 1})
	}
	return entries
}

// files are n entries that make a tree.
func files(n int) []api.Entry {
	var paths []string
	for i := range n {
		paths = append(paths, fmt.Sprintf("d%02d/f", i))
	}
	return tree(paths...)
}

// longest is a path of as many bytes as one may have.
func longest(last string) string {
	return strings.Repeat(strings.Repeat("x", 16)+"/", 5) + strings.Repeat("x", 15) + last
}

// parents are n IDs of which no two are alike.
func parents(n int) []api.ID {
	var ids []api.ID
	for i := range n {
		ids = append(ids, api.ID(n-i)*0xfedcba9876543211)
	}
	return ids
}

func anyNote(n int) string {
	b := make([]byte, n)
	for i := range b {
		b[i] = byte(i*37 + n)
	}
	return string(b)
}

// goodTrees are trees of many kinds, the edges among them.
func goodTrees() [][]api.Entry {
	all := api.ID(math.MaxUint64)
	return [][]api.Entry{
		nil,
		{},
		{{Path: "a", Blob: 1}},
		{{Path: "a", Blob: 0}, {Path: "b", Blob: 1 << 63}, {Path: "c", Blob: all}, {Path: "d", Blob: 0}},
		{{Path: "a", Blob: 7}, {Path: "b", Blob: 7}},
		{{Path: "z", Blob: 0x0102030405060708}},
		tree("a", "b/c", "d"),
		tree("a", "a.b", "a.c", "a0", "a_b/c", "ab"),
		tree(".", "..", "0", "_"),
		tree("a.b", "a/b", "a/c", "a0"),
		tree("a/b", "a/b.c", "a/b0", "a/bc/d"),
		tree("a.a/a", "a/a", "aa/a"),
		tree("x.x/x", "x/x.x", "x/x/x", "x/xx"),
		tree("a/b/c/d/e/f"),
		tree("a", longest("x"), longest("y"), "z"),
		{{Path: longest("x"), Blob: all}},
		files(2), files(63), files(64),
	}
}

// goodCommits are commits of many kinds, the edges among them.
func goodCommits() []api.Commit {
	var all []api.Commit
	for _, date := range []int64{0, 1, 255, 256, 0x0102030405, 1<<40 - 1, 1 << 40} {
		for _, n := range []int{0, 1, 2, 8} {
			for _, note := range []string{"", "n", "\x00", "\xff\xfe", "n\x00\n", anyNote(63), anyNote(64), strings.Repeat("ä", 32)} {
				all = append(all, api.Commit{Tree: api.ID(date) * 0x1122334455667789, Parents: parents(n), Date: date, Note: note})
			}
		}
	}
	return append(all,
		api.Commit{},
		api.Commit{Parents: []api.ID{}},
		api.Commit{Parents: []api.ID{0}},
		api.Commit{Tree: math.MaxUint64, Parents: []api.ID{math.MaxUint64, 0, 1 << 63}, Date: 1},
		api.Commit{Tree: 1 << 63, Parents: []api.ID{1 << 63}},
		api.Commit{Tree: 5, Parents: []api.ID{5, 4, 3}},
		api.Commit{Tree: 5, Parents: []api.ID{3, 4, 5}},
	)
}

// noPaths are texts that are no paths.
func noPaths() []string {
	return []string{
		"", "/", "A", "aA", "a b", "a\x00", "a\n", "\xff", "ä", "a-b", "a\\b", "*",
		"/a", "a/", "a//b", "a/b/", "a/B",
		strings.Repeat("x", 17), "a/" + strings.Repeat("x", 17), strings.Repeat("x", 17) + "/a",
		"a/b/c/d/e/f/g", "a/b/c/d/e/f/", longest("xx"), longest("x/"), longest("x/y"), longest("X"),
		strings.Repeat("x", 255), strings.Repeat("x", 256), strings.Repeat("x", 257), strings.Repeat("a/", 1000),
	}
}

// noTrees are lists of paths that make no tree.
func noTrees() [][]api.Entry {
	return [][]api.Entry{
		tree("b", "a"), tree("a", "c", "b"), tree("b", "c", "a"), tree("c", "b", "a"),
		tree("ab", "a"), tree("a/b", "a"), tree("a0", "a/b"), tree("a/b", "a.b"), tree("_", "."), tree("a", "_"),
		tree("a", "a"), tree("a/b", "a/b"), tree("a", "b", "b"), tree("a", "a", "b"), tree("a", "b", "a"), tree("a", "b", "c", "b"),
		{{Path: "a", Blob: 1}, {Path: "a", Blob: 1}},
		{{Path: "a", Blob: 2}, {Path: "a", Blob: 1}},
		tree("a", "a/b"), tree("a", "a/b/c"), tree("a/b", "a/b/c"), tree("0", "a/b", "a/b/c", "b"),
		tree("a", "a.b", "a/b"), tree("a", "a.", "a..", "a.b", "a/b"), tree("a", "a.b", "a.b/c"), tree("a", "a.b/c", "a.c/d", "a/b"),
		tree("a/b", "a/b.", "a/b.c/d", "a/b/c"), tree("a", "a.b", "a/b", "b"), tree("0", "a", "a.b", "a.c", "a/b/c/d/e/f"),
		tree("a", "a.b", "a/b", "a/c", "a0"), tree("x/x/x", "x/x/x.x", "x/x/x.y", "x/x/x/x"),
		append(files(63), api.Entry{Path: "a", Blob: 1}), append(files(63), api.Entry{Path: "d62/f/g", Blob: 1}), append(files(63), api.Entry{Path: "d00/f", Blob: 1}),
		tree(longest("x"), longest("w")), tree(longest("x"), longest("x")), tree(longest("x")[:84], longest("x")),
	}
}

// P8.1: Tree.
func TestTreeOfKnownBytes(t *testing.T) {
	for _, c := range []struct {
		entries []api.Entry
		want    string
	}{
		{nil, ""},
		{[]api.Entry{}, ""},
		{[]api.Entry{{Path: "a", Blob: 1}}, "01" + "61" + "0000000000000001"},
		{[]api.Entry{{Path: "a", Blob: 0x0102030405060708}}, "01" + "61" + "0102030405060708"},
		{[]api.Entry{{Path: "a", Blob: 0}, {Path: "b/c", Blob: 1 << 63}, {Path: "d", Blob: math.MaxUint64}}, "01" + "61" + "0000000000000000" + "03" + "622f63" + "8000000000000000" + "01" + "64" + "ffffffffffffffff"},
		{[]api.Entry{{Path: longest("z"), Blob: 255}}, "65" + hex.EncodeToString([]byte(longest("z"))) + "00000000000000ff"},
	} {
		want, err := hex.DecodeString(c.want)
		if err != nil {
			t.Fatal(err)
		}
		wantTree(t, c.entries, want)
		wantRead(t, want, c.entries)
	}
}

func TestTreeOfGoodOnes(t *testing.T) {
	for _, entries := range goodTrees() {
		if e := plainTreeError(entries); e != api.OK {
			t.Fatalf("%s is no tree: %v", short(entries), e)
		}
		wantTree(t, entries, plainTreeBytes(entries))
	}
	for n := range 65 {
		wantTree(t, files(n), plainTreeBytes(files(n)))
	}
	if n := len(longest("x")); n != 101 {
		t.Errorf("the longest path has %d bytes", n)
	}
}

func TestTreeOfTooMany(t *testing.T) {
	for _, n := range []int{65, 66, 128, 255, 256, 257, 320, 1000} {
		wantNoTree(t, files(n), api.ErrLong)
		// Neither that they are no paths nor that they are alike comes first.
		wantNoTree(t, make([]api.Entry, n), api.ErrLong)
		wantNoTree(t, slices.Repeat(tree("a"), n), api.ErrLong)
	}
	for _, p := range append(noPaths(), "a", "d63/f", "d63/f/g") {
		wantNoTree(t, append(files(64), api.Entry{Path: p}), api.ErrLong)
	}
}

func TestTreeOfNoPaths(t *testing.T) {
	for _, p := range noPaths() {
		bad := api.Entry{Path: p, Blob: 1}
		wantNoTree(t, []api.Entry{bad}, api.ErrName)
		wantNoTree(t, []api.Entry{bad, bad}, api.ErrName)
		for _, others := range [][]api.Entry{tree("a", "b", "c"), files(63)} {
			for _, place := range []int{0, 1, len(others) - 1, len(others)} {
				wantNoTree(t, slices.Insert(slices.Clone(others), place, bad), api.ErrName)
			}
		}
	}
}

// A Path that is none is told ahead of entries that make no tree, wherever both stand.
func TestTreeOfNoPathsAmongOthersThatFall(t *testing.T) {
	for _, p := range noPaths() {
		bad := api.Entry{Path: p, Blob: 1}
		for _, others := range noTrees() {
			if len(others) == 64 {
				others = others[1:]
			}
			for place := range len(others) + 1 {
				wantNoTree(t, slices.Insert(slices.Clone(others), place, bad), api.ErrName)
			}
		}
	}
}

func TestTreeOfNone(t *testing.T) {
	for _, entries := range noTrees() {
		wantNoTree(t, entries, api.ErrTree)
	}
	// At each place of a full tree: one twice, two that fall, one under the one ahead.
	for i := range 63 {
		entries := files(64)
		entries[i+1].Path = entries[i].Path
		wantNoTree(t, entries, api.ErrTree)
		entries = files(64)
		entries[i], entries[i+1] = entries[i+1], entries[i]
		wantNoTree(t, entries, api.ErrTree)
		entries = files(64)
		entries[i+1].Path = entries[i].Path + "/g"
		wantNoTree(t, entries, api.ErrTree)
	}
}

// Under one further ahead, with as many between as there is room for.
func TestTreeOfOneUnderOneFarAhead(t *testing.T) {
	for between := range 63 {
		paths := []string{"a"}
		for i := range between {
			paths = append(paths, fmt.Sprintf("a.%02d", i))
		}
		good := tree(append(slices.Clone(paths), "a0")...)
		wantTree(t, good, plainTreeBytes(good))
		wantNoTree(t, tree(append(paths, "a/b")...), api.ErrTree)
	}
}

// All lists of up to three of some paths that sort in wily ways.
func TestTreeOfAllShortLists(t *testing.T) {
	paths := []string{"a", "a.b", "a/b", "a/b.c", "a/b/c", "a0", "ab", "b", "A", ""}
	seen := map[api.Errno]int{}
	hold := func(list ...string) {
		entries := tree(list...)
		e := plainTreeError(entries)
		seen[e]++
		if e != api.OK {
			wantNoTree(t, entries, e)
			wantNotRead(t, plainTreeBytes(entries))
			return
		}
		wantTree(t, entries, plainTreeBytes(entries))
		wantRead(t, plainTreeBytes(entries), entries)
	}
	for _, p := range paths {
		hold(p)
		for _, q := range paths {
			hold(p, q)
			for _, r := range paths {
				hold(p, q, r)
			}
		}
	}
	for _, e := range []api.Errno{api.OK, api.ErrName, api.ErrTree} {
		if seen[e] < 10 {
			t.Errorf("%v was met too seldom to tell much: %d", e, seen[e])
		}
	}
}

// P8.1: ReadTree.
func TestReadTreeOfWritten(t *testing.T) {
	wantRead(t, nil, nil)
	wantRead(t, []byte{}, nil)
	for _, entries := range goodTrees() {
		b, e := Tree(entries...)
		if e != api.OK {
			t.Fatal(e)
		}
		wantRead(t, b, entries)
		wantRead(t, plainTreeBytes(entries), entries)
		// Spare room has more, and doesn't count.
		wantRead(t, append(slices.Clone(b), b...)[:len(b)], entries)
	}
}

// sizes are how many bytes the first entries of a tree have: of none, one, two, and so on.
func sizes(entries []api.Entry) map[int]int {
	ends := map[int]int{}
	for n := range len(entries) + 1 {
		ends[len(plainTreeBytes(entries[:n]))] = n
	}
	return ends
}

func TestReadTreeCutOffAtEachPlace(t *testing.T) {
	for _, entries := range goodTrees() {
		b, ends := plainTreeBytes(entries), sizes(entries)
		for n := range len(b) + 1 {
			if whole, ok := ends[n]; ok {
				wantRead(t, b[:n], entries[:whole])
				continue
			}
			wantNotRead(t, b[:n])
			wantNotRead(t, b[:n:n])
		}
	}
}

func TestReadTreeWithMoreBehind(t *testing.T) {
	for _, entries := range goodTrees() {
		b := plainTreeBytes(entries)
		for _, more := range []string{"\x00", "\x01", "\x0a", "\xff", "\x01z", "\x01z\x00\x00\x00\x00\x00\x00\x00", "\x02z\x00\x00\x00\x00\x00\x00\x00\x00", "\x00\x00\x00\x00\x00\x00\x00\x00\x00", strings.Repeat("\x00", 8), strings.Repeat("\xff", 500)} {
			wantNotRead(t, append(slices.Clone(b), more...))
		}
		if len(entries) > 0 {
			wantNotRead(t, append(slices.Clone(b), b...))
		}
	}
}

func TestReadTreeOfNoTreesBytes(t *testing.T) {
	for _, entries := range noTrees() {
		wantNotRead(t, plainTreeBytes(entries))
	}
	for _, n := range []int{65, 66, 99, 100} {
		wantNotRead(t, plainTreeBytes(files(n)))
	}
	for _, p := range noPaths() {
		if len(p) > 255 {
			continue
		}
		for _, entries := range [][]api.Entry{tree(p), tree("a", p), tree(p, "z")} {
			wantNotRead(t, plainTreeBytes(entries))
		}
	}
}

// A count that tells more than is there, or than a path may have.
func TestReadTreeOfWrongCounts(t *testing.T) {
	for count := range 256 {
		for _, room := range []int{0, 1, 7, 8, 9, 10, 100, 101, 108, 109, 110, 111, 263, 264, 265} {
			b := append([]byte{byte(count)}, bytes.Repeat([]byte("x"), room)...)
			// Names of 16 x and a / behind each make a path of as many bytes as the count says.
			for at := 17; at < count && at < len(b); at += 17 {
				b[at] = '/'
			}
			tree, _ := wantAsTold(t, b)
			if want := room == count+8 && count%17 != 0 && count <= 101; tree != want {
				t.Errorf("a path of %d bytes, with %d there: %v", count, room, tree)
			}
		}
	}
}

// spoilt are the bytes with the one at a place turned by a mask.
func spoilt(b []byte, at int, mask byte) []byte {
	other := slices.Clone(b)
	other[at] ^= mask
	return other
}

func TestReadTreeWithEachByteChanged(t *testing.T) {
	taken, refused := 0, 0
	for _, entries := range [][]api.Entry{tree("a"), tree("a", "b/c", "d"), tree("a", "a.b", "a0"), tree("a.b", "a/b", "a/c"), tree("a/b/c/d/e/f", longest("y"))} {
		b := plainTreeBytes(entries)
		for at := range b {
			for mask := 1; mask < 256; mask++ {
				if tree, _ := wantAsTold(t, spoilt(b, at, byte(mask))); tree {
					taken++
				} else {
					refused++
				}
			}
		}
	}
	if taken < 1000 || refused < 1000 {
		t.Errorf("%d were taken, %d were not: too few to tell much", taken, refused)
	}
}

// P8.2: Commit.
func TestCommitOfKnownBytes(t *testing.T) {
	for _, c := range []struct {
		c    api.Commit
		want string
	}{
		{api.Commit{}, "0000000000000000" + "00" + "0000000000000000" + "00"},
		{api.Commit{Tree: 0x0102030405060708, Date: 0x0a0b0c0d0e, Note: "n"}, "0102030405060708" + "00" + "0000000a0b0c0d0e" + "01" + "6e"},
		{api.Commit{Tree: 2, Parents: []api.ID{3, 1}, Date: 1 << 40, Note: "n\x00"}, "0000000000000002" + "02" + "0000000000000003" + "0000000000000001" + "0000010000000000" + "02" + "6e00"},
		{api.Commit{Tree: math.MaxUint64, Parents: []api.ID{1 << 63}, Date: 1}, "ffffffffffffffff" + "01" + "8000000000000000" + "0000000000000001" + "00"},
	} {
		want, err := hex.DecodeString(c.want)
		if err != nil {
			t.Fatal(err)
		}
		wantCommit(t, c.c, want)
		wantReadCommit(t, want, c.c)
	}
}

func TestCommitOfGoodOnes(t *testing.T) {
	for _, c := range goodCommits() {
		if e := plainCommitError(c); e != api.OK {
			t.Fatalf("%s is no commit: %v", short(c), e)
		}
		wantCommit(t, c, plainCommitBytes(c))
	}
	for n := range 9 {
		c := api.Commit{Tree: 1, Parents: parents(n)}
		wantCommit(t, c, plainCommitBytes(c))
	}
	for n := range 65 {
		c := api.Commit{Tree: 1, Note: anyNote(n)}
		wantCommit(t, c, plainCommitBytes(c))
	}
	for b := range 256 {
		c := api.Commit{Note: string([]byte{byte(b)})}
		wantCommit(t, c, plainCommitBytes(c))
		wantReadCommit(t, plainCommitBytes(c), c)
	}
}

func noDates() []int64 {
	return []int64{-1, -2, -256, -1 << 40, 1<<40 + 1, 1<<40 + 2, 1<<40 + 256, 1 << 41, 1 << 48, 1 << 56, 1 << 62, math.MaxInt64, math.MaxInt64 - 1, math.MinInt64, math.MinInt64 + 1, math.MinInt64 + 1<<40}
}

func TestCommitOfNoDate(t *testing.T) {
	for _, date := range noDates() {
		for _, n := range []int{0, 1, 8} {
			wantNoCommit(t, api.Commit{Tree: 1, Parents: parents(n), Date: date, Note: anyNote(64)}, api.ErrRange)
			wantNoCommit(t, api.Commit{Parents: parents(n), Date: date}, api.ErrRange)
		}
	}
}

// twins are lists of parents of which two are alike, at each two places.
func twins() [][]api.ID {
	var all [][]api.ID
	for n := 2; n <= 8; n++ {
		for i := range n {
			for j := range i {
				list := parents(n)
				list[i] = list[j]
				all = append(all, list)
			}
		}
	}
	return append(all, []api.ID{0, 0}, make([]api.ID, 8), []api.ID{math.MaxUint64, 1, math.MaxUint64}, []api.ID{1, 2, 1, 2})
}

func TestCommitOfTwins(t *testing.T) {
	for _, list := range twins() {
		wantNoCommit(t, api.Commit{Parents: list}, api.ErrTwice)
		wantNoCommit(t, api.Commit{Tree: list[0], Parents: list, Date: 1 << 40, Note: anyNote(64)}, api.ErrTwice)
		for _, date := range noDates() {
			wantNoCommit(t, api.Commit{Parents: list, Date: date}, api.ErrTwice)
		}
	}
	// Alike in half of their bits, and no twins.
	c := api.Commit{Parents: []api.ID{1, 1<<32 | 1, 1<<63 | 1, 1<<8 | 1}}
	wantCommit(t, c, plainCommitBytes(c))
	// A parent may be the tree's ID.
	c = api.Commit{Tree: 1, Parents: []api.ID{1}}
	wantCommit(t, c, plainCommitBytes(c))
}

func TestCommitThatIsTooLong(t *testing.T) {
	many := [][]api.ID{parents(9), parents(10), parents(255), parents(256), parents(257), parents(1000), make([]api.ID, 9), make([]api.ID, 256), append(parents(8), parents(8)[7])}
	for _, list := range many {
		for _, note := range []string{"", "n", anyNote(64), anyNote(65)} {
			for _, date := range append(noDates(), 0, 1<<40) {
				wantNoCommit(t, api.Commit{Tree: 1, Parents: list, Date: date, Note: note}, api.ErrLong)
			}
		}
	}
	for _, n := range []int{65, 66, 128, 255, 256, 257, 320, 1 << 16, 1<<16 + 1} {
		for _, list := range append(twins(), nil, parents(1), parents(8), parents(9)) {
			for _, date := range []int64{0, 1 << 40, -1, 1<<40 + 1} {
				wantNoCommit(t, api.Commit{Tree: 1, Parents: list, Date: date, Note: anyNote(n)}, api.ErrLong)
			}
		}
	}
	// It is bytes that count, not signs.
	wantNoCommit(t, api.Commit{Note: strings.Repeat("ä", 33)}, api.ErrLong)
}

// P8.2: ReadCommit.
func TestReadCommitOfWritten(t *testing.T) {
	for _, c := range goodCommits() {
		b, e := Commit(c)
		if e != api.OK {
			t.Fatal(e)
		}
		wantReadCommit(t, b, c)
		wantReadCommit(t, plainCommitBytes(c), c)
		wantReadCommit(t, append(slices.Clone(b), b...)[:len(b)], c)
	}
}

func TestReadCommitCutOffAtEachPlace(t *testing.T) {
	wantNoReadCommit(t, nil)
	wantNoReadCommit(t, []byte{})
	for _, c := range goodCommits() {
		b := plainCommitBytes(c)
		for n := range b {
			wantNoReadCommit(t, b[:n])
			wantNoReadCommit(t, b[:n:n])
			// Cut off in front, some are another commit's.
			wantAsTold(t, b[n+1:])
		}
	}
}

func TestReadCommitWithMoreBehind(t *testing.T) {
	for _, c := range goodCommits() {
		b := plainCommitBytes(c)
		for _, more := range []string{"\x00", "\x01", "n", "\xff", strings.Repeat("\x00", 8), strings.Repeat("n", 500), string(b)} {
			wantNoReadCommit(t, append(slices.Clone(b), more...))
		}
	}
}

// Bytes that are laid out as a commit's, and are none's.
func TestReadCommitOfNoCommitsBytes(t *testing.T) {
	for _, date := range noDates() {
		wantNoReadCommit(t, plainCommitBytes(api.Commit{Tree: 1, Date: date}))
		wantNoReadCommit(t, plainCommitBytes(api.Commit{Tree: 1, Parents: parents(8), Date: date, Note: anyNote(64)}))
	}
	for _, list := range twins() {
		wantNoReadCommit(t, plainCommitBytes(api.Commit{Tree: 1, Parents: list, Date: 1, Note: "n"}))
	}
	for _, n := range []int{9, 10, 100, 255} {
		wantNoReadCommit(t, plainCommitBytes(api.Commit{Parents: parents(n), Date: 1, Note: "n"}))
	}
	for _, n := range []int{65, 66, 100, 255} {
		wantNoReadCommit(t, plainCommitBytes(api.Commit{Date: 1, Note: anyNote(n)}))
	}
	for bit := range 64 {
		c := api.Commit{Tree: 3, Parents: parents(1), Date: 1 << bit, Note: "n"}
		if bit <= 40 {
			wantReadCommit(t, plainCommitBytes(c), c)
		} else {
			wantNoReadCommit(t, plainCommitBytes(c))
		}
	}
}

// Each count of parents and of the note's bytes, held against how many bytes there are.
func TestReadCommitOfToldNumbers(t *testing.T) {
	for _, c := range []api.Commit{{}, {Tree: 1, Parents: parents(1)}, {Tree: 1, Parents: parents(8), Date: 1, Note: "n"}, {Parents: parents(3), Note: anyNote(64)}, {Parents: parents(2), Note: strings.Repeat("\x00", 17)}} {
		b := plainCommitBytes(c)
		for told := range 256 {
			other := slices.Clone(b)
			other[8] = byte(told)
			wantAsTold(t, other)
			if told > len(c.Parents) && told > 8 {
				wantNoReadCommit(t, append(other, make([]byte, 3000)...))
			}
			other = slices.Clone(b)
			other[17+8*len(c.Parents)] = byte(told)
			if _, commit := wantAsTold(t, other); commit != (told == len(c.Note)) {
				t.Errorf("%s with %d bytes told of its note: %v", short(c), told, commit)
			}
		}
	}
}

func TestReadCommitWithEachByteChanged(t *testing.T) {
	taken, refused := 0, 0
	for _, c := range []api.Commit{{}, {Tree: 1, Parents: []api.ID{1, 2, 3}, Date: 1<<40 - 1, Note: "note"}, {Parents: []api.ID{0, 1}, Date: 1 << 40}, {Tree: 9, Parents: parents(8), Date: 77, Note: anyNote(64)}} {
		b := plainCommitBytes(c)
		for at := range b {
			for mask := 1; mask < 256; mask++ {
				if _, commit := wantAsTold(t, spoilt(b, at, byte(mask))); commit {
					taken++
				} else {
					refused++
				}
			}
		}
	}
	if taken < 1000 || refused < 1000 {
		t.Errorf("%d were taken, %d were not: too few to tell much", taken, refused)
	}
}

// P8.3.
func TestFind(t *testing.T) {
	for _, entries := range goodTrees() {
		for _, x := range entries {
			if id, ok := Find(entries, x.Path); !ok || id != x.Blob {
				t.Errorf("Find of %q in %s: %v, %v", x.Path, short(entries), id, ok)
			}
		}
	}
	list := []api.Entry{{Path: "b", Blob: 1}, {Path: "a", Blob: 2}, {Path: "b", Blob: 3}, {Path: "a/b", Blob: 4}, {Path: "", Blob: 5}, {Path: "No Path", Blob: 6}, {Path: "\xff\x00", Blob: 7}, {Path: "z", Blob: 0}, {Path: "z", Blob: 8}, {Path: "top", Blob: math.MaxUint64}, {Path: "", Blob: 9}}
	for _, c := range []struct {
		p    string
		want api.ID
	}{{"b", 1}, {"a", 2}, {"a/b", 4}, {"", 5}, {"No Path", 6}, {"\xff\x00", 7}, {"z", 0}, {"top", math.MaxUint64}} {
		if id, ok := Find(list, c.p); !ok || id != c.want {
			t.Errorf("Find of %q: %v, %v, want %v, true", c.p, id, ok, c.want)
		}
	}
	for _, n := range []int{65, 300} {
		long := files(n)
		if id, ok := Find(long, long[n-1].Path); !ok || id != long[n-1].Blob {
			t.Errorf("Find of the last of %d: %v, %v", n, id, ok)
		}
	}
}

func TestFindOfWhatIsNotThere(t *testing.T) {
	for _, c := range []struct {
		entries []api.Entry
		p       string
	}{
		{nil, ""}, {nil, "a"}, {[]api.Entry{}, ""}, {[]api.Entry{}, "a"},
		{tree("a"), ""}, {tree("a"), "a/b"}, {tree("a"), "a/"}, {tree("a"), "A"}, {tree("a"), "aa"}, {tree("aa"), "a"}, {tree("a"), "a\x00"}, {tree("a"), "/a"}, {tree("a"), "b"},
		{tree("a/b"), "a"}, {tree("a/b"), "b"}, {tree("a/b"), "a/"}, {tree("a/b"), "a/b/c"}, {tree("a/b", "a/c"), "a/bc"},
		{files(64), "d64/f"}, {files(64), "d00"}, {files(64), strings.Repeat("x", 1<<16)},
	} {
		if id, ok := Find(c.entries, c.p); ok || id != 0 {
			t.Errorf("Find of %.40q in %s: %v, %v, want 0, false", c.p, short(c.entries), id, ok)
		}
	}
}

func TestExamples(t *testing.T) {
	wantTree(t, []api.Entry{{Path: "a", Blob: 1}}, []byte{0x01, 0x61, 0, 0, 0, 0, 0, 0, 0, 1})
	wantNoTree(t, []api.Entry{{Path: "a", Blob: 1}, {Path: "a/b", Blob: 2}}, api.ErrTree)
	wantRead(t, nil, nil)
}

// The kinds are those of which the IDs are made: the kind's byte, and behind it the object's.
func TestKinds(t *testing.T) {
	if KBlob != 1 || KTree != 2 || KCommit != 3 {
		t.Error(KBlob, KTree, KCommit)
	}
	b, _ := Tree(tree("a", "b/c")...)
	c, _ := Commit(api.Commit{Tree: 1, Parents: parents(2), Date: 3, Note: "n"})
	for kind, x := range map[int][]byte{KBlob: []byte("blob"), KTree: b, KCommit: c} {
		h := fnv.New64a()
		h.Write([]byte{byte(kind)})
		h.Write(x)
		if id := sum.ID(kind, x); uint64(id) != h.Sum64() {
			t.Errorf("the ID of kind %d: %x", kind, id)
		}
	}
}

func randomPath(r *rand.Rand) string {
	names := []string{"a", "b", "a.b", "a0", "c", "."}
	p := names[r.Intn(len(names))]
	for range r.Intn(4) {
		p += "/" + names[r.Intn(len(names))]
	}
	if r.Intn(60) == 0 {
		return p + []string{"/", "//a", "B", "", "/a/a/a/a/a/a"}[r.Intn(5)]
	}
	return p
}

// randomTree has entries that rise, in most cases, and are under one another in some.
func randomTree(r *rand.Rand) []api.Entry {
	var paths []string
	for range r.Intn(8) {
		paths = append(paths, randomPath(r))
	}
	if r.Intn(6) > 0 {
		slices.Sort(paths)
		paths = slices.Compact(paths)
	}
	entries := tree(paths...)
	for i := range entries {
		entries[i].Blob = api.ID(r.Uint64())
	}
	return entries
}

func randomCommit(r *rand.Rand) api.Commit {
	c := api.Commit{Tree: api.ID(r.Uint64()), Date: r.Int63() >> (22 + r.Intn(42)), Note: anyNote(r.Intn(67))}
	for range r.Intn(10) {
		c.Parents = append(c.Parents, api.ID(r.Uint64()>>(56+r.Intn(5))))
	}
	return c
}

// mangled are bytes to which one of several things was done.
func mangled(r *rand.Rand, b []byte) []byte {
	at := r.Intn(len(b) + 1)
	switch r.Intn(6) {
	case 0:
		return b[:at]
	case 1:
		return b[at:]
	case 2:
		return slices.Insert(slices.Clone(b), at, byte(r.Intn(256)))
	case 3:
		if at < len(b) {
			return spoilt(b, at, byte(r.Intn(256)))
		}
	case 4:
		if at < len(b) {
			return slices.Delete(slices.Clone(b), at, at+1)
		}
	}
	return b
}

// Random trees and commits, and their bytes, whole and mangled, against the words of the chapter.
func TestRandomTrees(t *testing.T) {
	r := rand.New(rand.NewSource(8))
	seen := map[api.Errno]int{}
	taken := 0
	for range 20000 {
		entries := randomTree(r)
		e := plainTreeError(entries)
		seen[e]++
		if e == api.OK {
			wantTree(t, entries, plainTreeBytes(entries))
		} else {
			wantNoTree(t, entries, e)
		}
		wantAsTold(t, plainTreeBytes(entries))
		if tree, _ := wantAsTold(t, mangled(r, plainTreeBytes(entries))); tree {
			taken++
		}
	}
	if seen[api.OK] < 1000 || seen[api.ErrName] < 500 || seen[api.ErrTree] < 1000 || taken < 1000 {
		t.Error("some answers were met too seldom to tell much:", seen, taken)
	}
}

func TestRandomCommits(t *testing.T) {
	r := rand.New(rand.NewSource(9))
	seen := map[api.Errno]int{}
	taken := 0
	for range 20000 {
		c := randomCommit(r)
		e := plainCommitError(c)
		seen[e]++
		if e == api.OK {
			wantCommit(t, c, plainCommitBytes(c))
		} else {
			wantNoCommit(t, c, e)
		}
		wantAsTold(t, plainCommitBytes(c))
		if _, commit := wantAsTold(t, mangled(r, plainCommitBytes(c))); commit {
			taken++
		}
	}
	if seen[api.OK] < 1000 || seen[api.ErrLong] < 100 || seen[api.ErrTwice] < 1000 || seen[api.ErrRange] < 50 || taken < 1000 {
		t.Error("some answers were met too seldom to tell much:", seen, taken)
	}
}

// Rule 5: bytes of any kind, long ones too, are read to an end.
func TestReadersOfAnyBytes(t *testing.T) {
	for b := range 256 {
		for _, n := range []int{1, 2, 8, 9, 10, 17, 18, 19, 26, 27, 100, 300, 5000} {
			wantAsTold(t, bytes.Repeat([]byte{byte(b)}, n))
		}
	}
	r := rand.New(rand.NewSource(10))
	for range 3000 {
		b := make([]byte, r.Intn(200))
		r.Read(b)
		wantAsTold(t, b)
	}
	wantNotRead(t, make([]byte, 1<<24))
	wantNoReadCommit(t, make([]byte, 1<<24))
}

// Rule 3: what is handed in is not changed, its spare room neither.
func TestWhatIsHandedInStays(t *testing.T) {
	entries := slices.Concat(files(64), tree("a", "a", "A"))
	before := slices.Clone(entries)
	for n := range len(entries) + 1 {
		Tree(entries[:n]...)
		Tree(entries[len(entries)-n:]...)
		Find(entries[:n], "d20/f")
		Find(entries[:n], "z")
	}
	if !slices.Equal(entries, before) {
		t.Error("entries were changed")
	}
	list := append(parents(9), 1, 1)
	for n := range len(list) + 1 {
		Commit(api.Commit{Parents: list[:n], Note: "n"})
		Commit(api.Commit{Parents: list[len(list)-n:], Note: "n", Date: -1})
	}
	if !slices.Equal(list, append(parents(9), 1, 1)) {
		t.Error("parents were changed:", list)
	}
	for _, whole := range [][]byte{plainTreeBytes(files(3)), plainCommitBytes(api.Commit{Tree: 1, Parents: parents(2), Note: "note"})} {
		for n := range len(whole) + 1 {
			b := slices.Clone(whole)
			ReadTree(b[:n])
			ReadCommit(b[:n])
			if !bytes.Equal(b, whole) {
				t.Fatalf("the bytes were changed, of which %d were handed in", n)
			}
		}
	}
}

// fill writes over a list of bytes and over its spare room.
func fill(b []byte) {
	b = b[:cap(b)]
	for i := range b {
		b[i] ^= 0x5a
	}
}

// Rule 3: nothing is kept of what was handed in, and answers are new memory.
func TestTreesAreNewMemory(t *testing.T) {
	for _, entries := range goodTrees() {
		want := plainTreeBytes(entries)
		handed := slices.Clone(entries)
		first, _ := Tree(handed...)
		second, _ := Tree(handed...)
		clear(handed)
		fill(first)
		if !bytes.Equal(second, want) {
			t.Errorf("Tree of %s: two answers share bytes, or the entries are kept", short(entries))
		}
		read, _ := ReadTree(second)
		again, _ := ReadTree(second)
		fill(second)
		if !slices.Equal(read, entries) || !slices.Equal(again, entries) {
			t.Errorf("ReadTree to %s: the bytes are kept", short(entries))
		}
		clear(read[:cap(read)])
		if !slices.Equal(again, entries) {
			t.Errorf("ReadTree to %s: two answers share entries", short(entries))
		}
		wantTree(t, entries, want)
		wantRead(t, want, entries)
	}
}

func TestCommitsAreNewMemory(t *testing.T) {
	for _, c := range goodCommits() {
		want := plainCommitBytes(c)
		handed := c
		handed.Parents = slices.Clone(c.Parents)
		first, _ := Commit(handed)
		second, _ := Commit(handed)
		clear(handed.Parents)
		fill(first)
		if !bytes.Equal(second, want) {
			t.Errorf("Commit of %s: two answers share bytes, or the parents are kept", short(c))
		}
		read, _ := ReadCommit(second)
		again, _ := ReadCommit(second)
		fill(second)
		if !sameCommit(read, c) || !sameCommit(again, c) {
			t.Errorf("ReadCommit to %s: the bytes are kept", short(c))
		}
		clear(read.Parents[:cap(read.Parents)])
		if !sameCommit(again, c) {
			t.Errorf("ReadCommit to %s: two answers share parents", short(c))
		}
		wantCommit(t, c, want)
		wantReadCommit(t, want, c)
	}
}

// A text that is a piece of the bytes that were read, or of an argument, would keep them.
func TestAnswersPointNowhereInto(t *testing.T) {
	inside := func(p *byte, b []byte) bool {
		at, from := uintptr(unsafe.Pointer(p)), uintptr(unsafe.Pointer(unsafe.SliceData(b)))
		return p != nil && at >= from && at < from+uintptr(cap(b))
	}
	b := plainTreeBytes(files(5))
	entries, _ := ReadTree(b)
	for _, x := range entries {
		if inside(unsafe.StringData(x.Path), b) {
			t.Errorf("the Path %q is a piece of what was read", x.Path)
		}
	}
	b = plainCommitBytes(api.Commit{Parents: parents(2), Note: "a note"})
	c, _ := ReadCommit(b)
	if inside(unsafe.StringData(c.Note), b) {
		t.Error("the Note is a piece of what was read")
	}
	note := strings.Repeat("n", 64)
	b, _ = Commit(api.Commit{Note: note})
	if inside(unsafe.StringData(note), b) {
		t.Error("the bytes are the Note's")
	}
}

// Rule 4: what was asked before is not to be seen in an answer.
func TestAnswersHangOnTheirArguments(t *testing.T) {
	entries, c := tree("a", "b/c"), api.Commit{Tree: 1, Parents: parents(2), Date: 3, Note: "n"}
	treeBytes, commitBytes := plainTreeBytes(entries), plainCommitBytes(c)
	for range 3 {
		Tree(tree("b", "a")...)
		Tree(make([]api.Entry, 65)...)
		ReadTree([]byte{1})
		Commit(api.Commit{Date: -1})
		ReadCommit(commitBytes[:20])
		wantTree(t, entries, treeBytes)
		wantRead(t, treeBytes, entries)
		wantCommit(t, c, commitBytes)
		wantReadCommit(t, commitBytes, c)
		wantRead(t, nil, nil)
		wantNoReadCommit(t, nil)
	}
}
