package sum

import (
	"bytes"
	"fmt"
	"hash/crc32"
	"hash/fnv"
	"math"
	"math/big"
	"math/rand"
	"strings"
	"testing"

	"forebear/api"
)

// cuttings are lists of parts: none, empty ones, ordinary ones, bytes of every value.
func cuttings() [][][]byte {
	every := make([]byte, 256)
	for i := range every {
		every[i] = byte(i)
	}
	return [][][]byte{
		nil,
		{},
		{nil},
		{{}, nil, {}},
		{{0}},
		{{255}},
		{{0, 0, 0, 0}},
		{[]byte("123456789")},
		{[]byte("1234"), nil, []byte("5"), {}, []byte("6789")},
		{[]byte("tree a\nblob b\n")},
		{every},
		{every[:100], every[100:]},
		{bytes.Repeat(every, 40)},
	}
}

func joined(parts [][]byte) []byte { return bytes.Join(parts, nil) }

// P1.1: the rule told by another program's words: FNV-1a of the kind's byte and the parts' bytes.
func wantID(kind byte, parts [][]byte) api.ID {
	h := fnv.New64a()
	h.Write([]byte{kind})
	h.Write(joined(parts))
	return api.ID(h.Sum64())
}

func TestIDOfKnownBytes(t *testing.T) {
	for _, c := range []struct {
		kind int
		data string
		want api.ID
	}{
		{0, "", 0xaf63bd4c8601b7df},
		{'a', "", 0xaf63dc4c8601ec8c},
		{'f', "oobar", 0x85944171f73967e8},
	} {
		if got := ID(c.kind, []byte(c.data)); got != c.want {
			t.Errorf("ID(%d, %q): %x, want %x", c.kind, c.data, got, c.want)
		}
	}
}

func TestIDOfPartsAndKinds(t *testing.T) {
	for _, parts := range cuttings() {
		for kind := range 256 {
			if got, want := ID(kind, parts...), wantID(byte(kind), parts); got != want {
				t.Fatalf("ID(%d, %q): %x, want %x", kind, parts, got, want)
			}
		}
	}
}

func TestIDWithoutParts(t *testing.T) {
	if ID(7) != ID(7, nil) || ID(7) != ID(7, []byte{}, nil) {
		t.Error("parts without bytes are told from none")
	}
	if ID(7) == ID(7, []byte{0}) {
		t.Error("a byte 0 counts for nothing")
	}
}

func TestIDKindModulo256(t *testing.T) {
	for _, c := range []struct {
		kind int
		want byte
	}{
		{-1, 255}, {-255, 1}, {-256, 0}, {-257, 255}, {256, 0}, {257, 1}, {511, 255}, {512, 0},
		{math.MaxInt, 255}, {math.MinInt, 0}, {math.MinInt + 3, 3},
	} {
		if got, want := ID(c.kind, []byte("x")), wantID(c.want, [][]byte{[]byte("x")}); got != want {
			t.Errorf("ID(%d, x): %x, want that of the kind %d, %x", c.kind, got, c.want, want)
		}
	}
}

func TestIDHangsOnTheOrder(t *testing.T) {
	a, b := []byte("a"), []byte("b")
	if ID(1, a, b) == ID(1, b, a) || ID('a', b) == ID('b', a) {
		t.Error("the order of the bytes counts for nothing")
	}
}

// P1.2: the rule told by another program's words: the IEEE CRC-32.
func TestCheckOfKnownBytes(t *testing.T) {
	for data, want := range map[string]uint32{
		"":          0,
		"a":         0xe8b7be43,
		"123456789": 0xcbf43926,
		"\x00":      0xd202ef8d,
		"\xff":      0xff000000,
	} {
		if got := Check([]byte(data)); got != want {
			t.Errorf("Check(%q): %x, want %x", data, got, want)
		}
	}
}

func TestCheckOfParts(t *testing.T) {
	for _, parts := range cuttings() {
		if got, want := Check(parts...), crc32.ChecksumIEEE(joined(parts)); got != want {
			t.Errorf("Check(%q): %x, want %x", parts, got, want)
		}
	}
}

func TestCheckWithoutParts(t *testing.T) {
	if Check() != 0 || Check(nil) != 0 || Check(nil, []byte{}) != 0 {
		t.Error("the check sum of no bytes is 0")
	}
}

func TestCheckOfEachByte(t *testing.T) {
	for b := range 256 {
		data := []byte{byte(b)}
		if got, want := Check(data), crc32.ChecksumIEEE(data); got != want {
			t.Errorf("Check of the byte %d: %x, want %x", b, got, want)
		}
	}
}

// P1.3: reckoned with whole numbers without bound, each brought below 2^64 at once.
func wantSpread(id api.ID, i int) uint64 {
	bound := new(big.Int).Lsh(big.NewInt(1), 64)
	number := func(text string) *big.Int {
		n, _ := new(big.Int).SetString(text, 16)
		return n
	}
	mixed := func(z *big.Int, shift uint) *big.Int {
		return new(big.Int).Xor(z, new(big.Int).Rsh(z, shift))
	}
	times := func(z *big.Int, factor string) *big.Int {
		n := new(big.Int).Mul(z, number(factor))
		return n.Mod(n, bound)
	}
	next := new(big.Int).Add(big.NewInt(int64(i)), big.NewInt(1))
	z := new(big.Int).Add(new(big.Int).SetUint64(uint64(id)), times(next, "9e3779b97f4a7c15"))
	z.Mod(z, bound)
	z = times(mixed(z, 30), "bf58476d1ce4e5b9")
	z = times(mixed(z, 27), "94d049bb133111eb")
	return mixed(z, 31).Uint64()
}

func TestSpreadOfKnownNumbers(t *testing.T) {
	for _, c := range []struct {
		id   api.ID
		i    int
		want uint64
	}{
		{0, 0, 0xe220a8397b1dcdaf},
		{0, 1, 0x6e789e6aa1b965f4},
		{0, 2, 0x06c45d188009454f},
		{0, 3, 0xf88bb8a8724c81ec},
		{0, -1, 0},
	} {
		if got := Spread(c.id, c.i); got != c.want {
			t.Errorf("Spread(%x, %d): %x, want %x", uint64(c.id), c.i, got, c.want)
		}
	}
}

func TestSpread(t *testing.T) {
	ids := []api.ID{0, 1, 2, 255, 1 << 63, math.MaxUint64, math.MaxUint64 - 1, 0x9e3779b97f4a7c15, 0x123456789abcdef0}
	places := []int{0, 1, 2, 3, 11, 250, -1, -2, -3, -1000, math.MaxInt, math.MaxInt - 1, math.MinInt, math.MinInt + 1}
	random := rand.New(rand.NewSource(1))
	for range 100 {
		ids = append(ids, api.ID(random.Uint64()))
		places = append(places, int(random.Uint64()))
	}
	for _, id := range ids {
		for _, i := range places {
			if got, want := Spread(id, i), wantSpread(id, i); got != want {
				t.Fatalf("Spread(%x, %d): %x, want %x", uint64(id), i, got, want)
			}
		}
	}
}

// P1.4.
func someIDs() []api.ID {
	ids := []api.ID{0, 1, 9, 10, 15, 16, 255, 1 << 32, 1<<63 - 1, 1 << 63, math.MaxUint64 - 1, math.MaxUint64,
		0x123456789abcdef0, 0xfedcba9876543210}
	random := rand.New(rand.NewSource(2))
	for range 1000 {
		ids = append(ids, api.ID(random.Uint64()>>random.Intn(64)))
	}
	return ids
}

func TestHex(t *testing.T) {
	for id, want := range map[api.ID]string{
		0:                  "0000000000000000",
		255:                "00000000000000ff",
		math.MaxUint64:     "ffffffffffffffff",
		0x123456789abcdef0: "123456789abcdef0",
	} {
		if got := Hex(id); got != want {
			t.Errorf("Hex(%d): %q, want %q", uint64(id), got, want)
		}
	}
	for _, id := range someIDs() {
		if got, want := Hex(id), fmt.Sprintf("%016x", uint64(id)); got != want {
			t.Errorf("Hex(%d): %q, want %q", uint64(id), got, want)
		}
	}
}

func TestParseOfHex(t *testing.T) {
	for _, id := range someIDs() {
		if got, e := Parse(fmt.Sprintf("%016x", uint64(id))); got != id || e != api.OK {
			t.Errorf("Parse of the Hex of %d: %d, %d", uint64(id), uint64(got), e)
		}
	}
}

func refused(t *testing.T, s string) {
	t.Helper()
	if id, e := Parse(s); id != 0 || e != api.ErrForm {
		t.Errorf("Parse(%.40q): %x, %d, want 0, %d", s, uint64(id), e, api.ErrForm)
	}
}

func TestParseOfWrongLengths(t *testing.T) {
	for n := range 70 {
		if n != 16 {
			refused(t, strings.Repeat("0", n))
			refused(t, strings.Repeat("f", n))
		}
	}
	for _, s := range []string{"FF", "ff", "123456789abcdef", "123456789abcdef00", "00123456789abcdef0", " 123456789abcdef0", "123456789abcdef0\n", "0x123456789abcdef0"} {
		refused(t, s)
	}
	refused(t, strings.Repeat("0", 1<<20))
}

func TestParseOfOtherSigns(t *testing.T) {
	for _, s := range []string{"123456789ABCDEF0", "123456789abcdeF0", "0x23456789abcdef", "+123456789abcdef", "-123456789abcdef", "1234_5678_9abcde", "                ", "123456789abcde\xc3\xa9", "٠٠٠٠٠٠٠٠"} {
		refused(t, s)
	}
	good := "123456789abcdef0"
	for place := range len(good) {
		for b := range 256 {
			s := []byte(good)
			s[place] = byte(b)
			if !strings.Contains("0123456789abcdef", string(s[place:place+1])) {
				refused(t, string(s))
			}
		}
	}
}

// Rule 3: what is handed in is not changed, its spare room neither.
func TestPartsStayAsTheyWere(t *testing.T) {
	room := []byte("abcdefgh")
	parts := [][]byte{room[:2], room[2:5], room[:0]}
	ID(300, parts[:2]...)
	Check(parts[:2]...)
	if string(room) != "abcdefgh" || string(parts[0]) != "ab" || string(parts[1]) != "cde" || parts[2] == nil {
		t.Errorf("%q %q", room, parts)
	}
}
