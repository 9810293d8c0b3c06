package filter

import (
	"bytes"
	"encoding/hex"
	"fmt"
	"hash/fnv"
	"math"
	"math/big"
	"math/rand"
	"regexp"
	"slices"
	"strings"
	"testing"
)

// What a path is, by the words of chapter 3.
var pathForm = regexp.MustCompile(`\A[a-z0-9_.]{1,16}(/[a-z0-9_.]{1,16}){0,5}\z`)

// plainID is sum.ID of kind 9 by another program's words: FNV-1a of the kind's byte and the text's bytes.
func plainID(p string) *big.Int {
	h := fnv.New64a()
	h.Write([]byte{9})
	h.Write([]byte(p))
	return new(big.Int).SetUint64(h.Sum64())
}

// number is what is written to the base 16.
func number(digits string) *big.Int {
	n, ok := new(big.Int).SetString(digits, 16)
	if !ok {
		panic(digits)
	}
	return n
}

// plainSpread is sum.Spread, reckoned with whole numbers without bound, each brought below 2^64 at once.
func plainSpread(id *big.Int, i int) *big.Int {
	low := func(n *big.Int) *big.Int { return n.Mod(n, new(big.Int).Lsh(big.NewInt(1), 64)) }
	mix := func(z *big.Int, down uint, factor string) *big.Int {
		z = new(big.Int).Xor(z, new(big.Int).Rsh(z, down))
		return low(z.Mul(z, number(factor)))
	}
	z := new(big.Int).Mul(big.NewInt(int64(i)+1), number("9e3779b97f4a7c15"))
	z = low(z.Add(z, id))
	z = mix(z, 30, "bf58476d1ce4e5b9")
	z = mix(z, 27, "94d049bb133111eb")
	return new(big.Int).Xor(z, new(big.Int).Rsh(z, 31))
}

func plainPositions(p string, m int) []int {
	if m < 1 {
		return nil
	}
	var l []int
	for i := range 3 {
		l = append(l, int(new(big.Int).Mod(plainSpread(plainID(p), i), big.NewInt(int64(m))).Int64()))
	}
	return l
}

// plainUnlike is the paths among texts, each once, as they come.
func plainUnlike(texts []string) []string {
	var paths []string
	for _, s := range texts {
		if pathForm.MatchString(s) && !slices.Contains(paths, s) {
			paths = append(paths, s)
		}
	}
	return paths
}

// plainPaths is the paths of the filter of changed ones, as they come.
func plainPaths(changed []string) []string {
	var all []string
	for _, p := range plainUnlike(changed) {
		names := strings.Split(p, "/")
		for n := range names {
			if part := strings.Join(names[:n+1], "/"); !slices.Contains(all, part) {
				all = append(all, part)
			}
		}
	}
	return all
}

// plainSize is m of so many paths: the first multiple of 8 that is as great as is asked for.
func plainSize(paths int) int {
	m := 8
	for m < 12*paths {
		m += 8
	}
	return m
}

// plainMake lays the bits into one number, whose lowest byte is the filter's first one behind the 1.
func plainMake(changed []string) []byte {
	if len(plainUnlike(changed)) > 8 {
		return []byte{2}
	}
	paths := plainPaths(changed)
	m := plainSize(len(paths))
	all := new(big.Int)
	for _, p := range paths {
		for _, at := range plainPositions(p, m) {
			all.SetBit(all, at, 1)
		}
	}
	bits := all.FillBytes(make([]byte, m/8))
	slices.Reverse(bits)
	return append([]byte{1}, bits...)
}

func plainBits(f []byte) int {
	if len(f) > 1 && f[0] == 1 {
		return 8 * (len(f) - 1)
	}
	return 0
}

func plainMaybe(f []byte, p string) bool {
	if plainBits(f) == 0 {
		return true
	}
	high := slices.Clone(f[1:])
	slices.Reverse(high)
	all := new(big.Int).SetBytes(high)
	for _, at := range plainPositions(p, plainBits(f)) {
		if all.Bit(at) == 0 {
			return false
		}
	}
	return true
}

// short tells a long thing in few signs.
func short(x any) string {
	s := fmt.Sprintf("%+q", fmt.Sprintf("%v", x))
	if len(s) > 300 {
		return fmt.Sprintf("%s .. (%d signs)", s[:300], len(s))
	}
	return s
}

func wantMake(t *testing.T, changed []string, want []byte) {
	t.Helper()
	if f := Make(changed...); !bytes.Equal(f, want) {
		t.Errorf("Make of %s: %x, want %x", short(changed), f, want)
	}
}

func wantBits(t *testing.T, f []byte, want int) {
	t.Helper()
	if m := Bits(f); m != want {
		t.Errorf("Bits of %.24x (%d bytes): %d, want %d", f, len(f), m, want)
	}
}

func wantPositions(t *testing.T, p string, m int, want ...int) {
	t.Helper()
	if l := Positions(p, m); !slices.Equal(l, want) {
		t.Errorf("Positions of %s, %d: %v, want %v", short(p), m, l, want)
	}
}

func wantMaybe(t *testing.T, f []byte, p string, want bool) {
	t.Helper()
	if is := Maybe(f, p); is != want {
		t.Errorf("Maybe of %.80x (%d bytes), %s: %v", f, len(f), short(p), is)
	}
}

// wantAll holds the filter of changed paths, and what is asked of it, against the plain ones.
func wantAll(t *testing.T, changed ...string) {
	t.Helper()
	f := plainMake(changed)
	wantMake(t, changed, f)
	wantBits(t, f, plainBits(f))
	for _, p := range plainPaths(changed) {
		wantMaybe(t, f, p, true)
		wantMaybe(t, Make(changed...), p, true)
	}
	for _, p := range someTexts() {
		wantMaybe(t, f, p, plainMaybe(f, p))
	}
}

func unhex(t *testing.T, digits string) []byte {
	t.Helper()
	b, err := hex.DecodeString(strings.ReplaceAll(digits, " ", ""))
	if err != nil {
		t.Fatal(err)
	}
	return b
}

func longest() string { return strings.Join(slices.Repeat([]string{"abcdefghij012_.z"}, 6), "/") }

func noPaths() []string {
	return []string{"", "/", "//", "a/", "/a", "a//b", "A", "a/B", "a b", " a", "a\n", "\x00", "a\x00", "\xff", "é",
		"a-b", "a\\b", "abcdefghijklmnopq", "a/abcdefghijklmnopq", "a/b/c/d/e/f/g", longest() + "/a", longest() + "a"}
}

func someTexts() []string {
	paths := []string{"a", "b", "c", "zz", "a/b", "a/c", "a.b", "ab", "a/b/c", "a/b/c/d/e/f", "0", "_", ".", "..", longest()}
	return append(paths, noPaths()...)
}

// names is n unlike paths of one name each.
func names(n int) []string {
	var l []string
	for i := range n {
		l = append(l, fmt.Sprintf("f%02d", i))
	}
	return l
}

// deep is n unlike paths of six names each, which have none in common.
func deep(n int) []string {
	var l []string
	for i := range n {
		l = append(l, strings.Join(slices.Repeat([]string{fmt.Sprintf("f%02d", i)}, 6), "/"))
	}
	return l
}

// P11.1: reckoned elsewhere.
func TestMakeOfKnownPaths(t *testing.T) {
	for _, r := range []struct {
		changed []string
		want    string
	}{
		{nil, "01 00"},
		{[]string{"a"}, "01 00c1"},
		{[]string{"0"}, "01 0260"},
		{[]string{"a/b"}, "01 158060"},
		{[]string{"a/b", "a/c"}, "01 3064002181"},
		{[]string{"a", "b", "c", "d"}, "01 008011490645"},
		{[]string{"src/main.go", "README"}, "01 8221c0"},
		{[]string{"src/main.go", "doc/a_1"}, "01 1000048a21c8"},
		{[]string{"a", "b", "c", "d", "e", "f", "g", "h"}, "01 488094410649000003085106"},
		{[]string{"a", "b", "c", "d", "e", "f", "g", "h", "i"}, "02"},
		{[]string{"a/b/c/d/e/f"}, "01 13080202801054c0e4"},
	} {
		wantMake(t, r.changed, unhex(t, r.want))
		wantAll(t, r.changed...)
	}
}

func TestExamples(t *testing.T) {
	if KPath != 9 {
		t.Errorf("KPath: %d", KPath)
	}
	if f := Make(); !bytes.Equal(f, []byte{1, 0}) {
		t.Errorf("Make of nothing: %x", f)
	}
	wantMake(t, names(9), []byte{2})
	wantBits(t, Make("a/b"), 24)
	for _, p := range someTexts() {
		wantMaybe(t, Make(names(9)...), p, true)
	}
}

// P11.1: the changed paths are counted, each once; what leads to them is not.
func TestMakeOfCounts(t *testing.T) {
	for n := range 13 {
		for _, l := range [][]string{names(n), deep(n)} {
			wantAll(t, l...)
			if wide := bytes.Equal(Make(l...), []byte{2}); wide != (n > 8) {
				t.Errorf("of %d paths: %x", n, Make(l...))
			}
		}
	}
	eight := names(8)
	full := plainMake(eight)
	wantBits(t, full, 96)
	wantMake(t, append(names(8), "f03"), full)
	wantMake(t, append(names(8), "f00", "f07", "f07"), full)
	wantMake(t, slices.Repeat(eight, 100), full)
	wantMake(t, append(names(8), "f08"), []byte{2})
	wantMake(t, slices.Repeat([]string{"a"}, 9), unhex(t, "01 00c1"))
	wantMake(t, slices.Repeat(names(9), 2), []byte{2})
	wantBits(t, Make(deep(8)...), 8*6*12)
	// Alike ones don't make it wide, wherever they stand.
	for at := range eight {
		for _, again := range eight {
			wantMake(t, slices.Insert(names(8), at, again), full)
		}
		wantMake(t, slices.Insert(names(8), at, "g"), []byte{2})
	}
}

// P11.1: texts that are no paths are passed over, and not counted.
func TestMakeOfNoPaths(t *testing.T) {
	empty, eight := []byte{1, 0}, plainMake(names(8))
	for _, s := range noPaths() {
		if pathForm.MatchString(s) {
			t.Fatalf("a test's text is a path: %q", s)
		}
		wantMake(t, []string{s}, empty)
		wantMake(t, []string{s, s}, empty)
		wantMake(t, []string{"a/b", s}, unhex(t, "01 158060"))
		wantMake(t, []string{s, "a/b"}, unhex(t, "01 158060"))
		wantMake(t, []string{s, "a/b", s, "a/c", s}, unhex(t, "01 3064002181"))
		wantMake(t, append(names(8), s), eight)
		wantMake(t, append([]string{s}, names(8)...), eight)
		wantMake(t, append(names(9), s), []byte{2})
	}
	wantMake(t, noPaths(), empty)
	wantMake(t, slices.Repeat(noPaths(), 50), empty)
	wantMake(t, append(noPaths(), names(8)...), eight)
	wantMake(t, append(noPaths(), names(9)...), []byte{2})
	// What leads to a text that is no path is none of the filter's.
	wantMake(t, []string{"a/b/"}, empty)
	wantMake(t, []string{"a/b/C"}, empty)
	wantMake(t, []string{"a/B", "a"}, unhex(t, "01 00c1"))
}

// P11.1: what leads to a path is the filter's once, whether it is changed itself or not.
func TestMakeOfPathsThatLead(t *testing.T) {
	chain := []string{"a", "a/b", "a/b/c", "a/b/c/d", "a/b/c/d/e", "a/b/c/d/e/f"}
	whole := unhex(t, "01 13080202801054c0e4")
	for i := range chain {
		wantMake(t, []string{chain[i]}, plainMake(chain[:i+1]))
		wantMake(t, []string{chain[5], chain[i]}, whole)
		wantMake(t, []string{chain[i], chain[5]}, whole)
		wantMake(t, chain[i:], whole)
		wantBits(t, Make(chain[:i+1]...), plainSize(i+1))
	}
	wantMake(t, []string{"a", "a/b"}, unhex(t, "01 158060"))
	wantMake(t, []string{"a/b", "a"}, unhex(t, "01 158060"))
	// Each of them is a changed path, and counted as one.
	two := append(slices.Clone(chain), "b", "c")
	wantAll(t, two...)
	wantBits(t, Make(two...), 96)
	wantMake(t, append(two, "d"), []byte{2})
	wantMake(t, append(slices.Clone(chain), "a/x", "a/b/x", "a/b/c/x"), []byte{2})
	wantAll(t, "a/b", "a.b", "ab", "a/c/d", "a.b/c")
	wantAll(t, longest(), longest()[:33], longest()[:16])
}

// P11.1, P11.2: 12 bits for each path, 8 at least, up to whole bytes.
func TestSizes(t *testing.T) {
	want := []int{8, 16, 24, 40, 48, 64, 72, 88, 96}
	for n, m := range want {
		f := Make(names(n)...)
		wantBits(t, f, m)
		if len(f) != 1+m/8 || f[0] != 1 {
			t.Errorf("of %d paths: %x", n, f)
		}
	}
	// Eight changed paths and what leads to them: 8 to 48 paths.
	for leading := range 41 {
		l, left := names(8), leading
		for i := range l {
			more := min(left, 5)
			left -= more
			l[i] += strings.Repeat("/x", more)
		}
		if n := len(plainPaths(l)); n != 8+leading {
			t.Fatalf("%d paths of %q", n, l)
		}
		wantBits(t, Make(l...), plainSize(8+leading))
		wantMake(t, l, plainMake(l))
	}
}

// P11.1: neither order nor repetition of the changed paths tells anything.
func TestOrderAndRepetition(t *testing.T) {
	r := rand.New(rand.NewSource(1))
	for range 1500 {
		changed := randomTexts(r)
		want := plainMake(changed)
		for range 4 {
			l := slices.Clone(changed)
			for range r.Intn(6) * min(len(changed), 1) {
				l = append(l, changed[r.Intn(len(changed))])
			}
			r.Shuffle(len(l), func(i, j int) { l[i], l[j] = l[j], l[i] })
			wantMake(t, l, want)
		}
		slices.Sort(changed)
		wantMake(t, changed, want)
		slices.Reverse(changed)
		wantMake(t, changed, want)
		if t.Failed() {
			return
		}
	}
}

// P11.2: Bits.
func TestBits(t *testing.T) {
	wantBits(t, nil, 0)
	wantBits(t, []byte{}, 0)
	for first := range 256 {
		for _, more := range []int{0, 1, 2, 3, 9, 72, 1000} {
			for _, b := range []byte{0, 1, 2, 255} {
				f := append([]byte{byte(first)}, bytes.Repeat([]byte{b}, more)...)
				want := 0
				if first == 1 {
					want = 8 * more
				}
				wantBits(t, f, want)
			}
		}
	}
	// No byte of a filter that Make would not have made is asked for.
	wantBits(t, []byte{1, 1}, 8)
	wantBits(t, []byte{1, 2}, 8)
	wantBits(t, []byte{1, 0, 0, 0, 0}, 32)
	long := make([]byte, 1<<20+1)
	long[0] = 1
	wantBits(t, long, 1<<23)
	// The length tells, not the room.
	wantBits(t, long[:1], 0)
	wantBits(t, long[:0], 0)
	wantBits(t, long[:2], 8)
}

// P11.2: reckoned elsewhere.
func TestPositionsOfKnownTexts(t *testing.T) {
	const a = "a"
	wantPositions(t, a, 1, 0, 0, 0)
	wantPositions(t, a, 8, 7, 0, 6)
	wantPositions(t, a, 16, 15, 8, 14)
	wantPositions(t, a, 40, 39, 32, 14)
	wantPositions(t, a, 96, 15, 24, 46)
	wantPositions(t, a, 576, 495, 504, 142)
	wantPositions(t, a, 1000003, 859581, 537666, 553201)
	wantPositions(t, a, 1<<31, 1748719215, 823508792, 294734670)
	wantPositions(t, a, 1<<40+1, 998176540640, 447499970915, 1063296887366)
	wantPositions(t, a, 1<<62, 436444442245420655, 150260806063603512, 2477271129422646094)
	wantPositions(t, a, math.MaxInt64, 5048130460672808559, 150260806063603512, 2477271129422646094)
	wantPositions(t, "a/b", 24, 4, 2, 21)
	wantPositions(t, "a/b", math.MaxInt64, 8054426641669439757, 7437158185468452883, 738737123849165078)
	wantPositions(t, "", 8, 1, 1, 2)
	wantPositions(t, "", 24, 17, 1, 18)
	wantPositions(t, "", math.MaxInt64, 597640754482825954, 657733989368694217, 8726736711739957170)
	wantPositions(t, "A", 8, 0, 0, 1)
	wantPositions(t, "A", 16, 8, 8, 9)
	wantPositions(t, "A", math.MaxInt64, 7188417290303992969, 207618433392426168, 7421162507713790217)
	wantPositions(t, "\xff\x00/", 8, 4, 7, 1)
	wantPositions(t, "\xff\x00/", 100, 40, 51, 89)
	wantPositions(t, "\xff\x00/", math.MaxInt64, 4355833127310147740, 201541207479224551, 6334220581821646289)
	// Told twice, in the order of i: side by side, and with another one between.
	wantPositions(t, "h", 24, 6, 6, 23)
	wantPositions(t, "l", 24, 17, 0, 0)
	wantPositions(t, "n", 16, 7, 6, 7)
}

func someSizes() []int {
	l := []int{500, 576, 999, 1000, 65535, 65536, 65537, 1<<31 - 1, 1 << 31, 1<<31 + 1, 1<<32 - 1, 1 << 32, 1<<32 + 1,
		1<<53 + 1, 1<<62 - 1, 1 << 62, 1<<62 + 1, math.MaxInt - 1, math.MaxInt}
	for m := 1; m <= 100; m++ {
		l = append(l, m)
	}
	return l
}

// P11.2: of any text, path or not, in any number of bits.
func TestPositions(t *testing.T) {
	for _, p := range append(someTexts(), strings.Repeat("x", 70000), string(make([]byte, 300))) {
		for _, m := range someSizes() {
			wantPositions(t, p, m, plainPositions(p, m)...)
			for _, at := range Positions(p, m) {
				if at < 0 || at >= m {
					t.Errorf("Positions of %s, %d: %d", short(p), m, at)
				}
			}
		}
		for _, m := range []int{0, -1, -2, -7, -8, -40, -1 << 31, -1 << 32, math.MinInt + 1, math.MinInt} {
			wantPositions(t, p, m)
		}
	}
}

// P11.3: true of what has no bits, whatever is asked for.
func TestMaybeWithoutBits(t *testing.T) {
	for _, p := range someTexts() {
		wantMaybe(t, nil, p, true)
		wantMaybe(t, []byte{}, p, true)
		for first := range 256 {
			for _, more := range []int{0, 1, 5, 72} {
				f := append([]byte{byte(first)}, make([]byte, more)...)
				wantMaybe(t, f, p, first != 1 || more == 0)
			}
		}
	}
}

// P11.3: with all bits 1 nothing is left out, with all bits 0 everything is.
func TestMaybeOfAllBitsAlike(t *testing.T) {
	for more := 1; more <= 80; more++ {
		ones := append([]byte{1}, bytes.Repeat([]byte{255}, more)...)
		zeros := append([]byte{1}, make([]byte, more)...)
		for _, p := range someTexts() {
			wantMaybe(t, ones, p, true)
			wantMaybe(t, zeros, p, false)
		}
	}
	for _, p := range someTexts() {
		wantMaybe(t, Make(), p, false)
		wantMaybe(t, Make(noPaths()...), p, false)
	}
}

// P11.3: the bits at the text's positions tell, each of them, and no other one does.
func TestMaybeOfEachBit(t *testing.T) {
	for _, p := range someTexts() {
		for _, more := range []int{1, 2, 3, 5, 12, 72} {
			positions := plainPositions(p, 8*more)
			just := append([]byte{1}, make([]byte, more)...)
			ones := append([]byte{1}, bytes.Repeat([]byte{255}, more)...)
			for _, at := range positions {
				just[1+at/8] |= 1 << (at % 8)
			}
			wantMaybe(t, just, p, true)
			for at := range 8 * more {
				turned := slices.Clone(just)
				turned[1+at/8] ^= 1 << (at % 8)
				wantMaybe(t, turned, p, !slices.Contains(positions, at))
				turned = slices.Clone(ones)
				turned[1+at/8] ^= 1 << (at % 8)
				wantMaybe(t, turned, p, !slices.Contains(positions, at))
			}
		}
	}
}

// P11.3: of each kind of filter that Make makes.
func TestMaybeOfMade(t *testing.T) {
	for _, changed := range [][]string{nil, {"a"}, {"a/b"}, {"a/b", "a/c"}, {"A"}, {"a", "A"}, {"a", "a/b"}, names(4), names(8), names(9),
		append(names(8), "f00"), deep(1), deep(8), deep(9), {longest()}, noPaths()} {
		wantAll(t, changed...)
	}
	f := Make("a/b", "a/c")
	for _, p := range []string{"a", "a/b", "a/c"} {
		wantMaybe(t, f, p, true)
	}
	// A filter that let all through would miss nothing either.
	out := 0
	for _, p := range names(100) {
		if !Maybe(f, p) {
			out++
		}
	}
	if out < 70 {
		t.Errorf("%d of 100 are left out", out)
	}
}

// The more often names are met again, the more often paths lead to others, and are alike.
func randomPath(r *rand.Rand) string {
	names := []string{"a", "b", "a.b", "ab", "_", "0", ".", "z", "main.go", "abcdefghijklmnop"}
	var parts []string
	for range 1 + r.Intn(6) {
		parts = append(parts, names[r.Intn(len(names))])
	}
	return strings.Join(parts, "/")
}

func randomText(r *rand.Rand) string {
	switch r.Intn(8) {
	case 0:
		return noPaths()[r.Intn(len(noPaths()))]
	case 1:
		return string(randomBytes(r, 20))
	}
	return randomPath(r)
}

func randomTexts(r *rand.Rand) []string {
	var l []string
	for range r.Intn([]int{3, 10, 14}[r.Intn(3)]) {
		l = append(l, randomText(r))
	}
	return l
}

func randomBytes(r *rand.Rand, limit int) []byte {
	b := make([]byte, r.Intn(limit))
	r.Read(b)
	return b
}

// randomFilter is bytes of any kind, often a filter's, with few and with many bits.
func randomFilter(r *rand.Rand) []byte {
	f := randomBytes(r, []int{3, 10, 80}[r.Intn(3)])
	dense := r.Intn(3)
	for i := range f {
		for range 3 {
			switch dense {
			case 0:
				f[i] |= byte(r.Intn(256))
			case 1:
				f[i] &= byte(r.Intn(256))
			}
		}
	}
	if len(f) > 0 && r.Intn(6) > 0 {
		f[0] = 1
	}
	return f
}

// P11.1 to P11.3, held against the plain ones.
func TestRandom(t *testing.T) {
	r := rand.New(rand.NewSource(2))
	met := map[string]int{}
	for range 4000 {
		changed, p := randomTexts(r), randomText(r)
		f := plainMake(changed)
		wantMake(t, changed, f)
		wantBits(t, f, plainBits(f))
		wantMaybe(t, f, p, plainMaybe(f, p))
		met[fmt.Sprintf("made, first byte %d", f[0])]++
		met[fmt.Sprintf("made, first byte %d, maybe %v", f[0], plainMaybe(f, p))]++
		met[fmt.Sprintf("bits fill their bytes: %v", 12*len(plainPaths(changed)) == plainBits(f))]++
		f = randomFilter(r)
		wantBits(t, f, plainBits(f))
		wantMaybe(t, f, p, plainMaybe(f, p))
		met[fmt.Sprintf("any, bits %v, maybe %v", plainBits(f) > 0, plainMaybe(f, p))]++
		if t.Failed() {
			return
		}
	}
	for _, what := range []string{"made, first byte 1", "made, first byte 2", "made, first byte 1, maybe true", "made, first byte 1, maybe false",
		"bits fill their bytes: true", "bits fill their bytes: false", "any, bits true, maybe true", "any, bits true, maybe false", "any, bits false, maybe true"} {
		if met[what] < 100 {
			t.Errorf("%s: met too seldom: %d times", what, met[what])
		}
	}
}

// P11.4.
func TestNothingIsMissed(t *testing.T) {
	r := rand.New(rand.NewSource(3))
	asked := 0
	for range 6000 {
		changed := randomTexts(r)
		f := Make(changed...)
		for _, p := range plainPaths(changed) {
			asked++
			if !Maybe(f, p) {
				t.Fatalf("%q is missed in the filter of %q: %x", p, changed, f)
			}
		}
	}
	if asked < 20000 {
		t.Errorf("%d paths", asked)
	}
	for _, l := range [][]string{deep(1), deep(8), deep(9), names(8), names(9), {longest()}, append(names(7), longest())} {
		for _, p := range plainPaths(l) {
			wantMaybe(t, Make(l...), p, true)
		}
	}
}

// Rule 5: any bytes and any numbers.
func TestAnythingEnds(t *testing.T) {
	r := rand.New(rand.NewSource(4))
	for range 20000 {
		var texts []string
		for range r.Intn(12) {
			texts = append(texts, string(randomBytes(r, 40)))
		}
		f, p, m := randomBytes(r, 40), string(randomBytes(r, 40)), int(r.Uint64())
		wantMaybe(t, Make(texts...), p, plainMaybe(plainMake(texts), p))
		wantBits(t, f, plainBits(f))
		wantMaybe(t, f, p, plainMaybe(f, p))
		wantPositions(t, p, m, plainPositions(p, m)...)
		if t.Failed() {
			return
		}
	}
}

// Rule 5: long lists and long texts end soon, too.
func TestLongOnes(t *testing.T) {
	const n = 300000
	unlike, alike, none := make([]string, n), make([]string, n), make([]string, n)
	for i := range n {
		unlike[i] = fmt.Sprintf("d%d/f%d", i%7, n-i)
		alike[i] = names(8)[i%8]
		none[i] = fmt.Sprintf("D/%d", i)
	}
	wantMake(t, unlike, []byte{2})
	wantMake(t, alike, plainMake(names(8)))
	wantMake(t, none, []byte{1, 0})
	wantMake(t, append(none, "a/b"), unhex(t, "01 158060"))
	for _, part := range []string{"a", "a/", "/", "\x00"} {
		long := strings.Repeat(part, 1<<20)
		wantMake(t, []string{long, "a"}, unhex(t, "01 00c1"))
		wantPositions(t, long, 97, plainPositions(long, 97)...)
		wantMaybe(t, []byte{1, 0}, long, false)
		wantMaybe(t, []byte{1, 255}, long, true)
	}
	f := append([]byte{1}, bytes.Repeat([]byte{255}, 1<<22)...)
	wantMaybe(t, f, "a", true)
	at := plainPositions("a", 8<<22)[2]
	f[1+at/8] ^= 1 << (at % 8)
	wantMaybe(t, f, "a", false)
}

// roomy lays a list into a longer one, whose spare room has a mark in each place.
func roomy[T any](list []T, mark T) []T {
	whole := slices.Repeat([]T{mark}, len(list)+8)
	copy(whole, list)
	return whole[:len(list)]
}

// untouched tells whether a roomy list is still as it was made.
func untouched[T comparable](list, was []T, mark T) bool {
	for i, x := range list[:cap(list)] {
		if i < len(was) && x != was[i] || i >= len(was) && x != mark {
			return false
		}
	}
	return true
}

// Rule 3: what is handed in is not changed, its spare room neither.
func TestArgumentsStay(t *testing.T) {
	const textMark, byteMark = "mark", 0x77
	r := rand.New(rand.NewSource(5))
	for range 3000 {
		texts, filter := randomTexts(r), randomFilter(r)
		changed, f := roomy(texts, textMark), roomy(filter, byteMark)
		Make(changed...)
		Bits(f)
		Maybe(f, randomText(r))
		if !untouched(changed, texts, textMark) || !untouched(f, filter, byteMark) {
			t.Fatalf("what was handed in is changed: %q, %x", texts, filter)
		}
	}
}

func fill[T any](list []T, x T) {
	whole := list[:cap(list)]
	for i := range whole {
		whole[i] = x
	}
}

// Rule 3: nothing is kept, and answers are new memory, each for itself.
func TestAnswersAreNew(t *testing.T) {
	r := rand.New(rand.NewSource(6))
	sizes := someSizes()
	for range 3000 {
		changed, p, m := randomTexts(r), randomText(r), sizes[r.Intn(len(sizes))]
		want, wantList := plainMake(changed), plainPositions(p, m)
		first, firstList := Make(changed...), Positions(p, m)
		second, secondList := Make(changed...), Positions(p, m)
		// Whoever is answered may write into it, its spare room too, and whoever asked into what was handed in.
		fill(second, 0x55)
		fill(secondList, -1)
		again := slices.Clone(changed)
		fill(changed, "wrong")
		if !bytes.Equal(first, want) || !slices.Equal(firstList, wantList) {
			t.Fatalf("an answer changed: %x, %v", first, firstList)
		}
		wantMake(t, again, want)
		wantPositions(t, p, m, wantList...)
	}
	// What is alike in all of them, too.
	for _, changed := range [][]string{nil, {"A"}, names(9)} {
		fill(Make(changed...), 0x55)
		wantMake(t, changed, plainMake(changed))
	}
	f := Make("a")
	wantMaybe(t, f, "a", true)
	fill(f, 0)
	f[0] = 1
	wantMaybe(t, f, "a", false)
}

// Rule 4: what was asked ahead tells nothing.
func TestAskedAgain(t *testing.T) {
	r := rand.New(rand.NewSource(7))
	type asked struct {
		changed []string
		f       []byte
		p       string
		m       int
	}
	tell := func(x asked) string {
		return fmt.Sprint(Make(x.changed...), Bits(x.f), Positions(x.p, x.m), Maybe(x.f, x.p))
	}
	var all []asked
	var told []string
	for range 500 {
		x := asked{changed: randomTexts(r), f: randomFilter(r), p: randomText(r), m: int(r.Int63()) - 1<<61}
		all, told = append(all, x), append(told, tell(x))
	}
	for _, i := range r.Perm(len(all)) {
		if s := tell(all[i]); s != told[i] {
			t.Fatalf("first %s, then %s", short(told[i]), short(s))
		}
	}
}

// Rule 2: an empty list may be nil or empty.
func TestEmptyOrNil(t *testing.T) {
	for _, none := range [][]string{nil, {}, names(3)[:0]} {
		wantMake(t, none, []byte{1, 0})
	}
	for _, none := range [][]byte{nil, {}, []byte{1, 0}[:0]} {
		wantBits(t, none, 0)
		wantMaybe(t, none, "a", true)
	}
}
