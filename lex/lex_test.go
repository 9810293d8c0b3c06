package lex

import (
	"fmt"
	"math"
	"math/rand"
	"regexp"
	"slices"
	"strconv"
	"strings"
	"testing"
	"unsafe"

	"forebear/api"
)

const (
	letters  = "abcdefghijklmnopqrstuvwxyz"
	numerals = "0123456789"
	sixteen  = "0123456789abcdef"
)

var allSigns = []string{"(", ")", ",", "|", "&", "-", "!", "^", "..", "::"}

func name(text string, at int) Token { return Token{Kind: Name, Text: text, At: at} }

func num(n, at int) Token { return Token{Kind: Num, Num: n, At: at} }

func text(inside string, at int) Token { return Token{Kind: Text, Text: inside, At: at} }

func hash(id api.ID, at int) Token { return Token{Kind: Hash, ID: id, At: at} }

func sign(text string, at int) Token { return Token{Kind: Sign, Text: text, At: at} }

// wantTokens asks for these tokens, and holds the text against the chapter's words.
func wantTokens(t *testing.T, s string, want ...Token) {
	t.Helper()
	got, at, e := Scan(s)
	if e != api.OK || at != 0 || !slices.Equal(got, want) {
		t.Errorf("%.200q: %#.400v, %d, %v, want %#.400v", s, got, at, e, want)
	}
	hold(t, s)
}

// wantError asks for an error at a place, and for nothing beside it.
func wantError(t *testing.T, s string, wantAt int, want api.Errno) {
	t.Helper()
	got, at, e := Scan(s)
	if e != want || at != wantAt || len(got) != 0 {
		t.Errorf("%.200q: %#.400v, %d, %v, want %d, %v", s, got, at, e, wantAt, want)
	}
	hold(t, s)
}

func wantNone(t *testing.T, s string, at int) {
	t.Helper()
	wantError(t, s, at, api.ErrToken)
}

func wantLong(t *testing.T, s string) {
	t.Helper()
	wantError(t, s, 0, api.ErrLong)
}

func wantWritten(t *testing.T, want string, tokens ...Token) {
	t.Helper()
	if got := Write(tokens...); got != want {
		t.Errorf("Write of %#.400v: %.200q, want %.200q", tokens, got, want)
	}
}

// shapes tell for each kind, by its first byte, what a token of it takes, however long, and which of that is one.
var shapes = []struct {
	kind      Kind
	takes, is *regexp.Regexp
}{
	{Name, regexp.MustCompile(`^[a-z][a-z0-9_]*`), regexp.MustCompile(`^[a-z0-9_]{1,16}$`)},
	{Num, regexp.MustCompile(`^[0-9]+`), regexp.MustCompile(`^(0|[1-9][0-9]{0,8})$`)},
	{Text, regexp.MustCompile(`^'[^']*'?`), regexp.MustCompile(`^'[^'\n]*'$`)},
	{Hash, regexp.MustCompile(`(?s)^#.{0,16}`), regexp.MustCompile(`^#[0-9a-f]{16}$`)},
	{Sign, regexp.MustCompile(`^(\.\.|::|[(),|&!^-])`), regexp.MustCompile(`.`)},
}

// pieceOf is the token with which a text begins, and its bytes; none, if there is no such token.
func pieceOf(s string) (Token, string) {
	for _, shape := range shapes {
		piece := shape.takes.FindString(s)
		if piece == "" {
			continue
		}
		if !shape.is.MatchString(piece) {
			return Token{}, ""
		}
		token := Token{Kind: shape.kind}
		switch shape.kind {
		case Name, Sign:
			token.Text = piece
		case Num:
			token.Num, _ = strconv.Atoi(piece)
		case Text:
			token.Text = strings.Trim(piece, "'")
		case Hash:
			id, _ := strconv.ParseUint(piece[1:], 16, 64)
			token.ID = api.ID(id)
		}
		return token, piece
	}
	return Token{}, ""
}

// tokensOf is Scan by the chapter's words.
func tokensOf(s string) ([]Token, int, api.Errno) {
	if len(s) > 1024 {
		return nil, 0, api.ErrLong
	}
	var tokens []Token
	for rest := strings.TrimLeft(s, " \t"); rest != ""; rest = strings.TrimLeft(rest, " \t") {
		at := len(s) - len(rest)
		token, piece := pieceOf(rest)
		if piece == "" {
			return nil, at, api.ErrToken
		}
		token.At = at
		tokens = append(tokens, token)
		rest = rest[len(piece):]
	}
	return tokens, 0, api.OK
}

// textOf is a token as it would stand, by the chapter's words.
func textOf(token Token) string {
	switch token.Kind {
	case Num:
		return fmt.Sprintf("%d", token.Num)
	case Text:
		return "'" + token.Text + "'"
	case Hash:
		return fmt.Sprintf("#%016x", uint64(token.ID))
	}
	return token.Text
}

// textsOf is Write by the chapter's words.
func textsOf(tokens []Token) string {
	var texts []string
	for _, token := range tokens {
		texts = append(texts, textOf(token))
	}
	return strings.Join(texts, " ")
}

// placeless are the tokens with no place.
func placeless(tokens []Token) []Token {
	out := slices.Clone(tokens)
	for i := range out {
		out[i].At = 0
	}
	return out
}

// hold holds Scan of a text, Write of its tokens and Scan of that against the chapter's words.
func hold(t *testing.T, s string) {
	t.Helper()
	tokens, at, e := Scan(s)
	want, wantAt, wantE := tokensOf(s)
	if e != wantE || at != wantAt || !slices.Equal(tokens, want) {
		t.Fatalf("%.200q: %#.400v, %d, %v, by the words %#.400v, %d, %v", s, tokens, at, e, want, wantAt, wantE)
	}
	if e != api.OK {
		return
	}
	end := 0
	for _, token := range tokens {
		stands := textOf(token)
		if token.At < end || strings.Trim(s[end:token.At], " \t") != "" || !strings.HasPrefix(s[token.At:], stands) {
			t.Fatalf("%.200q: %#v stands not there", s, token)
		}
		end = token.At + len(stands)
	}
	if strings.Trim(s[end:], " \t") != "" {
		t.Fatalf("%.200q: behind the last token stands %.200q", s, s[end:])
	}
	holdWritten(t, tokens)
}

// holdWritten holds Write of tokens, and Scan of that, against the chapter's words.
func holdWritten(t *testing.T, tokens []Token) {
	t.Helper()
	written := Write(tokens...)
	if want := textsOf(tokens); written != want {
		t.Fatalf("Write of %#.400v: %.200q, want %.200q", tokens, written, want)
	}
	again, at, e := Scan(written)
	if len(written) > 1024 {
		if e != api.ErrLong || at != 0 || len(again) != 0 {
			t.Fatalf("%.200q: %#.400v, %d, %v", written, again, at, e)
		}
		return
	}
	if e != api.OK || at != 0 || !slices.Equal(placeless(again), placeless(tokens)) {
		t.Fatalf("%.200q: %#.400v, %d, %v, want the tokens %#.400v", written, again, at, e, tokens)
	}
}

// everyText is what stands in a Text of all bytes but 39 and 10.
func everyText() string {
	var all []byte
	for b := range 256 {
		if b != 39 && b != 10 {
			all = append(all, byte(b))
		}
	}
	return string(all)
}

// some are tokens of each kind, the least and the greatest ones among them.
func some() []Token {
	tokens := []Token{
		name("a", 0), name("z", 0), name("all", 0), name("a_1", 0), name("a123456789012345", 0), name("zzzzzzzzzzzzzzzz", 0), name("a_______________", 0),
		num(0, 0), num(1, 0), num(9, 0), num(10, 0), num(12345678, 0), num(100000000, 0), num(999999999, 0),
		text("", 0), text("a", 0), text(" ", 0), text("\t\x00\r", 0), text("a b", 0), text("#..::()1", 0), text("é\xff", 0), text(everyText(), 0),
		hash(0, 0), hash(1, 0), hash(255, 0), hash(0x0123456789abcdef, 0), hash(1<<63, 0), hash(math.MaxUint64, 0),
	}
	for _, s := range allSigns {
		tokens = append(tokens, sign(s, 0))
	}
	return tokens
}

func TestExamples(t *testing.T) {
	wantTokens(t, "a..b^2", name("a", 0), sign("..", 1), name("b", 3), sign("^", 4), num(2, 5))
	wantWritten(t, "a .. b ^ 2", name("a", 0), sign("..", 1), name("b", 3), sign("^", 4), num(2, 5))
	wantNone(t, "a.b", 1)
	wantNone(t, "012", 0)
}

// The numbers of the kinds are those of the chapter.
func TestKinds(t *testing.T) {
	if Name != 1 || Num != 2 || Text != 3 || Hash != 4 || Sign != 5 {
		t.Error(Name, Num, Text, Hash, Sign)
	}
	wantTokens(t, "a 1 'b' #0000000000000002 ,",
		Token{Kind: 1, Text: "a"}, Token{Kind: 2, Num: 1, At: 2}, Token{Kind: 3, Text: "b", At: 4}, Token{Kind: 4, ID: 2, At: 8}, Token{Kind: 5, Text: ",", At: 26})
}

// P22.1: ordinary revision sets.
func TestScan(t *testing.T) {
	wantTokens(t, "heads(all()) - main",
		name("heads", 0), sign("(", 5), name("all", 6), sign("(", 9), sign(")", 10), sign(")", 11), sign("-", 13), name("main", 15))
	wantTokens(t, "touching('a/b.c', v1::#00000000000000ff)&!x_2^^3|7",
		name("touching", 0), sign("(", 8), text("a/b.c", 9), sign(",", 16), name("v1", 18), sign("::", 20), hash(255, 22), sign(")", 39),
		sign("&", 40), sign("!", 41), name("x_2", 42), sign("^", 45), sign("^", 46), num(3, 47), sign("|", 48), num(7, 49))
	wantTokens(t, "1a2 b''c", num(1, 0), name("a2", 1), name("b", 4), text("", 5), name("c", 7))
}

// P22.1: the bytes 32 and 9 are passed over wherever they stand; without tokens there are none.
func TestBlanks(t *testing.T) {
	for _, s := range []string{"", " ", "\t", "  ", " \t ", "\t\t\t \t", strings.Repeat(" ", 1024), strings.Repeat("\t", 1024), strings.Repeat(" \t", 512)} {
		wantTokens(t, s)
	}
	wantTokens(t, " a", name("a", 1))
	wantTokens(t, "\ta", name("a", 1))
	wantTokens(t, "a ", name("a", 0))
	wantTokens(t, "a\t", name("a", 0))
	wantTokens(t, "a b", name("a", 0), name("b", 2))
	wantTokens(t, "a\tb", name("a", 0), name("b", 2))
	wantTokens(t, "\t \ta \t\tb\t  ", name("a", 3), name("b", 7))
	wantTokens(t, " 1 2\t3 ", num(1, 1), num(2, 3), num(3, 5))
	wantTokens(t, "( ..\t::\t", sign("(", 0), sign("..", 2), sign("::", 5))
	wantTokens(t, strings.Repeat(" ", 1023)+"a", name("a", 1023))
	wantTokens(t, "a"+strings.Repeat("\t", 1023), name("a", 0))
	// Within a token they are no blanks: they end it, or belong to it.
	wantNone(t, ". .", 0)
	wantNone(t, "(: :", 1)
	wantNone(t, "# 0123456789abcdef", 0)
	wantNone(t, "#01234567 89abcdef", 0)
	wantTokens(t, "' \t'", text(" \t", 0))
	wantTokens(t, "1 0", num(1, 0), num(0, 2))
}

// P22.1: other bytes that look like blanks are none.
func TestOtherBlanks(t *testing.T) {
	for _, other := range []string{"\n", "\r", "\v", "\f", "\x00", "\x08", "\x0b", "\x1f", "\x7f", "\x85", "\xa0", "\u0085", "\u00a0", "\u2003", "\u3000", "\ufeff"} {
		wantNone(t, other, 0)
		wantNone(t, other+"a", 0)
		wantNone(t, " "+other+" a", 1)
		wantNone(t, "a"+other+"b", 1)
		wantNone(t, "a "+other+" b", 2)
		wantNone(t, "a b"+other, 3)
		wantNone(t, "a\t"+other, 2)
	}
}

// kindOf tells what a byte alone is: blank, a token, or none.
func kindOf(b byte) (token Token, blank, none bool) {
	one := string([]byte{b})
	switch {
	case b == 32 || b == 9:
		return Token{}, true, false
	case strings.Contains(letters, one):
		return name(one, 0), false, false
	case strings.Contains(numerals, one):
		return num(int(b)-48, 0), false, false
	case strings.Contains("(),|&-!^", one):
		return sign(one, 0), false, false
	}
	return Token{}, false, true
}

// P22.1: each of the 256 bytes alone, and behind a token.
func TestEveryByte(t *testing.T) {
	for b := range 256 {
		one := string([]byte{byte(b)})
		token, blank, none := kindOf(byte(b))
		// Behind these it begins a token of its own; behind a blank it does so too.
		for _, ahead := range []string{"", " ", "\t", ")", "::", "''", "'a'", "#" + sixteen, "a ", "1\t", "-"} {
			before, _, e := Scan(ahead)
			if e != api.OK {
				t.Fatal(ahead, e)
			}
			at := len(ahead)
			switch {
			case none:
				wantNone(t, ahead+one, at)
			case blank:
				wantTokens(t, ahead+one, before...)
			default:
				token.At = at
				wantTokens(t, ahead+one, append(before, token)...)
			}
		}
		wantBehindName(t, one)
		wantBehindNum(t, one)
	}
}

func wantBehindName(t *testing.T, one string) {
	t.Helper()
	token, blank, none := kindOf(one[0])
	switch {
	case strings.Contains(letters+numerals+"_", one):
		wantTokens(t, "x"+one, name("x"+one, 0))
		wantTokens(t, "x"+one+"y", name("x"+one+"y", 0))
	case none:
		wantNone(t, "x"+one, 1)
	case blank:
		wantTokens(t, "x"+one, name("x", 0))
	default:
		token.At = 1
		wantTokens(t, "x"+one, name("x", 0), token)
	}
}

func wantBehindNum(t *testing.T, one string) {
	t.Helper()
	token, blank, none := kindOf(one[0])
	switch {
	case token.Kind == Num:
		wantTokens(t, "7"+one, num(70+token.Num, 0))
		wantNone(t, "0"+one, 0)
	case none:
		wantNone(t, "7"+one, 1)
		wantNone(t, "0"+one, 1)
	case blank:
		wantTokens(t, "7"+one, num(7, 0))
	default:
		token.At = 1
		wantTokens(t, "7"+one, num(7, 0), token)
		wantTokens(t, "0"+one, num(0, 0), token)
	}
}

// P22.1: bytes of 128 and more begin no token, and belong to a Text alone.
func TestHighBytes(t *testing.T) {
	for _, high := range []string{"é", "\x80", "\xff", "\xc3", "ª", "１", "ａ", "’", "＃", "–", "日本", "\xf0\x9f\x98\x80", "\ufffd"} {
		wantNone(t, high, 0)
		wantNone(t, "ab"+high, 2)
		wantNone(t, "12"+high, 2)
		wantNone(t, "..'x'"+high+"'", 5)
		wantTokens(t, "a'"+high+"'b", name("a", 0), text(high, 1), name("b", 3+len(high)))
		wantNone(t, "#"+high+sixteen, 0)
		wantNone(t, "#"+sixteen[:15]+high, 0)
	}
}

// P22.1: MaxExpr bytes are the most, whatever they are.
func TestLength(t *testing.T) {
	for _, piece := range []string{" ", "\t", "(", "a ", "1|", "'x'", "..", "#" + sixteen, "abcdefghijklmnop "} {
		long := strings.Repeat(piece, 1100)
		for _, n := range []int{1022, 1023, 1024} {
			// Blanks fill what a whole number of pieces leaves.
			s := long[:n/len(piece)*len(piece)]
			s += strings.Repeat(" ", n-len(s))
			tokens, at, e := Scan(s)
			wanted := n / len(piece)
			switch piece {
			case " ", "\t":
				wanted = 0
			case "1|":
				wanted *= 2
			}
			if len(tokens) != wanted || at != 0 || e != api.OK {
				t.Errorf("%d bytes of %q: %d tokens, %d, %v", n, piece, len(tokens), at, e)
			}
			hold(t, s)
		}
		wantLong(t, long[:1025])
		wantLong(t, long[:1026])
		wantLong(t, long)
	}
	wantLong(t, strings.Repeat("a ", 1<<20))
}

// P22.1: ErrLong is named first, and its place is 0, wherever there is a token that is none.
func TestLengthAheadOfTokens(t *testing.T) {
	for _, wrong := range []string{"A", ".", "'", "#", "012", "_", "\n", "\xff", "1234567890", "abcdefghijklmnopq"} {
		rest := 1025 - len(wrong)
		for _, ahead := range []int{0, 1, rest / 2, rest} {
			s := strings.Repeat(" ", ahead) + wrong + strings.Repeat(" ", rest-ahead)
			wantLong(t, s)
			wantLong(t, s+" ")
			if ahead > 0 {
				wantNone(t, s[1:], ahead-1)
			} else {
				wantNone(t, s[:1024], 0)
			}
		}
	}
	wantNone(t, strings.Repeat("A", 1024), 0)
	wantLong(t, strings.Repeat("A", 1025))
	wantLong(t, strings.Repeat("a", 1025))
	wantNone(t, strings.Repeat("a", 1024), 0)
}

// P22.1: a Name has 1 to 16 signs, and takes as many as follow.
func TestNames(t *testing.T) {
	long := strings.Repeat("az_09by_18cx", 100)
	for _, n := range []int{1, 2, 3, 14, 15, 16} {
		wantTokens(t, long[:n], name(long[:n], 0))
		wantTokens(t, "("+long[:n]+")", sign("(", 0), name(long[:n], 1), sign(")", n+1))
		wantTokens(t, long[:n]+" "+long[:n], name(long[:n], 0), name(long[:n], n+1))
	}
	for _, n := range []int{17, 18, 20, 31, 32, 33, 48, 100, 1000, 1022} {
		wantNone(t, long[:n], 0)
		wantNone(t, "!"+long[:n], 1)
		wantNone(t, long[:n]+" ", 0)
	}
	for _, n := range []int{15, 16, 17, 32} {
		for _, follow := range []string{"a", "0", "_"} {
			s := "a" + strings.Repeat(follow, n-1)
			if n <= 16 {
				wantTokens(t, s, name(s, 0))
			} else {
				wantNone(t, s, 0)
			}
		}
	}
}

// P22.1: at each place of a Name each sign that may stand there, and none that may not.
func TestNameSigns(t *testing.T) {
	const whole = "abcdefghijklmnop"
	for at := range whole {
		for b := range 256 {
			s := whole[:at] + string([]byte{byte(b)}) + whole[at+1:]
			one := s[at : at+1]
			if strings.Contains(letters, one) || at > 0 && strings.Contains(numerals+"_", one) {
				wantTokens(t, s, name(s, 0))
			} else if tokens, _, e := Scan(s); e == api.OK && slices.Equal(tokens, []Token{name(s, 0)}) {
				t.Errorf("%q is a Name", s)
			}
			hold(t, s)
		}
	}
	for _, wrong := range []string{"_", "_a", "_1", "__", "A", "Ab", "Main", "Z9", "$a", "@"} {
		wantNone(t, wrong, 0)
		wantNone(t, "a "+wrong, 2)
		wantNone(t, "'a'"+wrong, 3)
	}
	wantNone(t, "aB", 1)
	wantNone(t, "a_B_", 2)
	wantTokens(t, "a__", name("a__", 0))
	wantTokens(t, "a-b", name("a", 0), sign("-", 1), name("b", 2))
	wantNone(t, "a/b", 1)
}

// P22.1: a Name may stand right behind a Num; digits right behind a Name belong to it.
func TestNamesAndNums(t *testing.T) {
	wantTokens(t, "1a", num(1, 0), name("a", 1))
	wantTokens(t, "0a", num(0, 0), name("a", 1))
	wantTokens(t, "0x10", num(0, 0), name("x10", 1))
	wantTokens(t, "1e5", num(1, 0), name("e5", 1))
	wantTokens(t, "999999999z_", num(999999999, 0), name("z_", 9))
	wantTokens(t, "1abcdefghijklmnop", num(1, 0), name("abcdefghijklmnop", 1))
	wantNone(t, "1abcdefghijklmnopq", 1)
	wantNone(t, "1234567890a", 0)
	wantNone(t, "01a", 0)
	wantTokens(t, "a1", name("a1", 0))
	wantTokens(t, "a01", name("a01", 0))
	wantTokens(t, "a1234567890", name("a1234567890", 0))
	wantTokens(t, "a 0b", name("a", 0), num(0, 2), name("b", 3))
	wantTokens(t, "abcdefghijklmno1", name("abcdefghijklmno1", 0))
	wantNone(t, "abcdefghijklmnop1", 0)
	wantNone(t, "abcdefghijklmnop_", 0)
	wantTokens(t, "abcdefghijklmnop-1", name("abcdefghijklmnop", 0), sign("-", 16), num(1, 17))
	wantNone(t, "1_", 1)
	wantNone(t, "1_000", 1)
}

// P22.1: a Num has 1 to 9 digits, and takes as many as follow.
func TestNums(t *testing.T) {
	for _, n := range []int{1, 5, 9, 10, 19, 90, 99, 100, 101, 12345678, 87654321, 99999999, 100000000, 123456789, 987654321, 999999998, 999999999} {
		s := strconv.Itoa(n)
		wantTokens(t, s, num(n, 0))
		wantTokens(t, " "+s+")", num(n, 1), sign(")", len(s)+1))
		wantTokens(t, s+" "+s, num(n, 0), num(n, len(s)+1))
		wantTokens(t, "-"+s, sign("-", 0), num(n, 1))
	}
	for n := range 2000 {
		wantTokens(t, strconv.Itoa(n), num(n, 0))
	}
	for _, s := range []string{"1000000000", "1234567890", "9999999999", "2147483648", "4294967296", "9223372036854775807", "9223372036854775808", "18446744073709551616", strings.Repeat("9", 100), strings.Repeat("1", 1023)} {
		wantNone(t, s, 0)
		wantNone(t, "^"+s, 1)
	}
}

// P22.1: 0 is a Num; of several digits it is not the first.
func TestZeros(t *testing.T) {
	wantTokens(t, "0", num(0, 0))
	wantTokens(t, "0 0", num(0, 0), num(0, 2))
	wantTokens(t, "0|0", num(0, 0), sign("|", 1), num(0, 2))
	wantTokens(t, "-0", sign("-", 0), num(0, 1))
	for _, s := range []string{"00", "01", "09", "000", "010", "0123456", "00000000", "000000000", "012345678", "0000000001", "0123456789"} {
		wantNone(t, s, 0)
		wantNone(t, "a^"+s, 2)
		wantNone(t, s+" 1", 0)
	}
	wantTokens(t, "10", num(10, 0))
	wantTokens(t, "100", num(100, 0))
	wantNone(t, "0.5", 1)
	wantNone(t, "+0", 0)
}

// P22.1: a Text is all up to the next quote.
func TestTexts(t *testing.T) {
	wantTokens(t, "''", text("", 0))
	wantTokens(t, "'a'", text("a", 0))
	wantTokens(t, "'a/b.c'", text("a/b.c", 0))
	wantTokens(t, " ' a\t' ", text(" a\t", 1))
	wantTokens(t, "'"+everyText()+"'", text(everyText(), 0))
	wantTokens(t, "''''", text("", 0), text("", 2))
	wantTokens(t, "'a''b'", text("a", 0), text("b", 3))
	wantTokens(t, "'a'b'c'", text("a", 0), name("b", 3), text("c", 4))
	wantTokens(t, "'\\'", text("\\", 0))
	wantTokens(t, "'\"'", text("\"", 0))
	wantTokens(t, "'\\n'", text("\\n", 0))
	wantTokens(t, "'abcdefghijklmnopqrstuvwxyz 1234567890 012'", text("abcdefghijklmnopqrstuvwxyz 1234567890 012", 0))
	inside := "a 1 #" + sixteen + " " + strings.Join(allSigns, " ") + strings.Join(allSigns, "") + " . : # _ A 007"
	wantTokens(t, "'"+inside+"'", text(inside, 0))
	for n := range 1023 {
		s := strings.Repeat("x", n)
		wantTokens(t, "'"+s+"'", text(s, 0))
	}
	wantLong(t, "'"+strings.Repeat("x", 1023)+"'")
	for b := range 256 {
		if b == 39 || b == 10 {
			continue
		}
		one := string([]byte{byte(b)})
		wantTokens(t, "'"+one+"'", text(one, 0))
		wantTokens(t, "'a"+one+"b'-", text("a"+one+"b", 0), sign("-", 5))
	}
}

// P22.1: a Text that doesn't end, or has a byte 10 in it, is none.
func TestTextsThatAreNone(t *testing.T) {
	for _, s := range []string{"'", "'a", "' ", "'a b c", "'\n", "'a\n", "'\n'", "'a\n'", "'\na'", "'a\nb'", "'\n\n'", "'\n''", "'\"", "'" + everyText(), "'" + strings.Repeat("x", 1023)} {
		wantNone(t, s, 0)
		if len(s) < 1000 {
			wantNone(t, "a "+s, 2)
			wantNone(t, "''"+s, 2)
		}
	}
	wantNone(t, "'''", 2)
	wantNone(t, "'a''", 3)
	wantNone(t, "'a'b'", 4)
	wantNone(t, "'''''", 4)
	wantNone(t, "'a'\n'b'", 3)
	wantNone(t, "'a' 'b\nc' 'd", 4)
	// A byte 10 ahead of the end is none of the Text's that has ended.
	wantNone(t, "'a'-\n", 4)
}

// P22.1: a Hash is the sixteen digits behind its sign.
func TestHashes(t *testing.T) {
	for _, id := range []api.ID{0, 1, 9, 10, 15, 16, 255, 0x0123456789abcdef, 0xfedcba9876543210, 1 << 32, 1<<63 - 1, 1 << 63, math.MaxUint64 - 1, math.MaxUint64} {
		s := fmt.Sprintf("#%016x", uint64(id))
		wantTokens(t, s, hash(id, 0))
		wantTokens(t, " "+s+"^", hash(id, 1), sign("^", 18))
		wantTokens(t, s+s, hash(id, 0), hash(id, 17))
		wantTokens(t, "a"+s+".."+s, name("a", 0), hash(id, 1), sign("..", 18), hash(id, 20))
	}
	wantTokens(t, "#0000000000000000", hash(0, 0))
	wantTokens(t, "#ffffffffffffffff", hash(math.MaxUint64, 0))
}

// P22.1: what stands right behind the sixteenth digit is another token.
func TestBehindHashes(t *testing.T) {
	const id, s = 0x0123456789abcdef, "#" + sixteen
	wantTokens(t, s+"1", hash(id, 0), num(1, 17))
	wantTokens(t, s+"0", hash(id, 0), num(0, 17))
	wantTokens(t, s+"12", hash(id, 0), num(12, 17))
	wantNone(t, s+"00", 17)
	wantNone(t, s+sixteen, 17)
	wantTokens(t, s+"a", hash(id, 0), name("a", 17))
	wantTokens(t, s+"ff_0", hash(id, 0), name("ff_0", 17))
	wantTokens(t, s+"'x'", hash(id, 0), text("x", 17))
	wantTokens(t, s+"::", hash(id, 0), sign("::", 17))
	wantNone(t, s+"_", 17)
	wantNone(t, s+"A", 17)
	wantNone(t, s+"#", 17)
	wantNone(t, s+"\n", 17)
}

// P22.1: with fewer digits, or with one that is none, it is no Hash.
func TestHashesThatAreNone(t *testing.T) {
	for n := range 16 {
		s := "#" + sixteen[:n]
		wantNone(t, s, 0)
		wantNone(t, "a "+s, 2)
		wantNone(t, s+" ", 0)
		wantNone(t, s+strings.Repeat(" ", 20), 0)
		wantNone(t, s+")"+sixteen, 0)
		wantNone(t, s+"#"+sixteen, 0)
	}
	for at := range 16 {
		for b := range 256 {
			s := "#" + sixteen[:at] + string([]byte{byte(b)}) + sixteen[at+1:]
			if strings.Contains(sixteen, s[at+1:at+2]) {
				id, _ := strconv.ParseUint(s[1:], 16, 64)
				wantTokens(t, s, hash(api.ID(id), 0))
			} else {
				wantNone(t, s, 0)
				wantNone(t, ","+s+"0", 1)
			}
		}
	}
	for _, s := range []string{"#ABCDEF0123456789", "#0123456789ABCDEF", "#00000000000000fF", "##0123456789abcdef", "#0x23456789abcdef", "#+123456789abcdef", "#-123456789abcdef", "#0123_456789abcde"} {
		wantNone(t, s, 0)
	}
}

// P22.1: each Sign alone, and each two of them side by side.
func TestSigns(t *testing.T) {
	for _, a := range allSigns {
		wantTokens(t, a, sign(a, 0))
		wantTokens(t, " "+a+"\t", sign(a, 1))
		wantTokens(t, "a"+a+"1", name("a", 0), sign(a, 1), num(1, 1+len(a)))
		wantTokens(t, "'x'"+a+"'x'", text("x", 0), sign(a, 3), text("x", 3+len(a)))
		for _, b := range allSigns {
			wantTokens(t, a+b, sign(a, 0), sign(b, len(a)))
			wantTokens(t, a+" "+b, sign(a, 0), sign(b, len(a)+1))
			for _, c := range allSigns {
				wantTokens(t, a+b+c, sign(a, 0), sign(b, len(a)), sign(c, len(a+b)))
			}
		}
	}
}

// P22.1: `.` and `:` are Signs by twos alone.
func TestDotsAndColons(t *testing.T) {
	for _, one := range []string{".", ":"} {
		two := one + one
		wantNone(t, one, 0)
		wantNone(t, one+" ", 0)
		wantNone(t, " "+one, 1)
		wantNone(t, "a"+one, 1)
		wantNone(t, "a"+one+"b", 1)
		wantNone(t, one+"b", 0)
		wantNone(t, one+" "+one, 0)
		wantTokens(t, two, sign(two, 0))
		wantNone(t, two+one, 2)
		wantNone(t, two+one+"a", 2)
		wantNone(t, "a"+two+one, 3)
		wantTokens(t, two+two, sign(two, 0), sign(two, 2))
		wantNone(t, two+two+one, 4)
		wantTokens(t, two+" "+two, sign(two, 0), sign(two, 3))
	}
	wantNone(t, ".:", 0)
	wantNone(t, ":.", 0)
	wantNone(t, ".::", 0)
	wantNone(t, ":..", 0)
	wantNone(t, ".::.", 0)
	wantNone(t, "..:", 2)
	wantNone(t, "::.", 2)
	wantTokens(t, "..::", sign("..", 0), sign("::", 2))
	wantTokens(t, "::..", sign("::", 0), sign("..", 2))
	wantNone(t, "\u2025", 0)
}

// P22.1: what looks like a Sign of other languages is none.
func TestOtherSigns(t *testing.T) {
	for _, wrong := range []string{"+", "*", "/", "%", "=", "<", ">", "?", "~", "`", "\"", "\\", ";", "[", "]", "{", "}", "$", "@"} {
		wantNone(t, wrong, 0)
		wantNone(t, "a"+wrong, 1)
		wantNone(t, "a "+wrong+wrong, 2)
		wantNone(t, "("+wrong+")", 1)
	}
}

// P22.1: the place is that of the first byte of the first token that is none, wherever it stands, and whatever comes behind it.
func TestErrorPlaces(t *testing.T) {
	wrongs := []string{"abcdefghijklmnopq", "1234567890", "012", "'a\nb'", "#0123456789abcdeg", "#012", ".", ":", "A", "_", "\n", "\xff", "/"}
	for _, wrong := range wrongs {
		wantNone(t, wrong, 0)
		wantNone(t, wrong+" b c", 0)
		wantNone(t, "\t"+wrong+" b", 1)
		wantNone(t, "a "+wrong+" c", 2)
		wantNone(t, "('a b', "+wrong+", d)", 8)
		wantNone(t, "a b "+wrong, 4)
		wantNone(t, "a|b|"+wrong, 4)
		wantNone(t, strings.Repeat("(", 1000)+wrong, 1000)
		for _, other := range wrongs {
			wantNone(t, wrong+" "+other, 0)
			wantNone(t, "a "+wrong+" b "+other, 2)
		}
	}
	wantNone(t, "a 'b", 2)
	wantNone(t, "a 'b c d A", 2)
	wantNone(t, "a A 'b", 2)
	wantNone(t, "a 'b' 'c", 6)
}

// P22.2: no tokens are the empty text; a token alone is as it stands.
func TestWrite(t *testing.T) {
	wantWritten(t, "")
	wantWritten(t, "", []Token{}...)
	wantWritten(t, "main", name("main", 0))
	wantWritten(t, "0", num(0, 0))
	wantWritten(t, "999999999", num(999999999, 0))
	wantWritten(t, "''", text("", 0))
	wantWritten(t, "'a b'", text("a b", 0))
	wantWritten(t, "#0000000000000000", hash(0, 0))
	wantWritten(t, "#00000000000000ff", hash(255, 0))
	wantWritten(t, "#ffffffffffffffff", hash(math.MaxUint64, 0))
	for _, s := range allSigns {
		wantWritten(t, s, sign(s, 0))
		wantWritten(t, s+" "+s, sign(s, 0), sign(s, 0))
	}
	wantWritten(t, "heads ( all ( ) ) - main", name("heads", 0), sign("(", 0), name("all", 0), sign("(", 0), sign(")", 0), sign(")", 0), sign("-", 0), name("main", 0))
	wantWritten(t, "'"+everyText()+"'", text(everyText(), 0))
	for _, token := range some() {
		wantWritten(t, textOf(token), token)
		holdWritten(t, []Token{token})
	}
}

// P22.2: each two side by side, with one blank between them, wherever they stood; so of three.
func TestWriteOfTwo(t *testing.T) {
	for _, a := range some() {
		for _, b := range some() {
			want := textOf(a) + " " + textOf(b)
			wantWritten(t, want, a, b)
			holdWritten(t, []Token{a, b})
			a.At, b.At = 700, -3
			wantWritten(t, want, a, b)
			a.At, b.At = 0, len(textOf(a))+1
			wantTokens(t, want, a, b)
		}
	}
	few := []Token{name("a", 0), num(10, 0), text("", 0), hash(7, 0), sign("..", 0), sign("-", 0)}
	for _, a := range few {
		for _, b := range few {
			for _, c := range few {
				wantWritten(t, textOf(a)+" "+textOf(b)+" "+textOf(c), a, b, c)
				holdWritten(t, []Token{a, b, c})
			}
		}
	}
}

// P22.2: Write has no bound; what is longer than MaxExpr can't be scanned again.
func TestWriteOfMany(t *testing.T) {
	for _, n := range []int{511, 512, 513, 1024, 1 << 16} {
		tokens := slices.Repeat([]Token{sign("(", 0)}, n)
		want := strings.Repeat("( ", n)[:2*n-1]
		wantWritten(t, want, tokens...)
		holdWritten(t, tokens)
		if _, at, e := Scan(want); (e == api.OK) != (n <= 512) || at != 0 {
			t.Errorf("%d tokens: %d, %v", n, at, e)
		}
	}
	// All that Scan tells at most is written, and is too long to be scanned.
	tokens, _, e := Scan(strings.Repeat("!", 1024))
	if e != api.OK || len(tokens) != 1024 {
		t.Fatal(len(tokens), e)
	}
	wantLong(t, Write(tokens...))
	// 1022 bytes between two quotes are all that may stand; with a token beside them it is too long.
	most := text(strings.Repeat("x", 1022), 0)
	wantTokens(t, Write(most), most)
	wantLong(t, Write(most, sign(")", 0)))
	for fill := 1018; fill <= 1022; fill++ {
		holdWritten(t, []Token{name("a", 0), text(strings.Repeat("y", fill), 0)})
	}
	long := text(strings.Repeat("z", 1<<20), 0)
	wantWritten(t, "'"+long.Text+"' a", long, name("a", 0))
}

// Rule 5: of tokens that Scan never tells it ends, and doesn't panic.
func TestWriteOfOthers(t *testing.T) {
	for _, kind := range []Kind{math.MinInt, -1, 0, 1, 2, 3, 4, 5, 6, math.MaxInt} {
		for _, n := range []int{math.MinInt, -1, 0, 1 << 40, math.MaxInt} {
			for _, s := range []string{"", "'", "\n", "A b", "\xff", strings.Repeat("a", 2000)} {
				token := Token{Kind: kind, Text: s, Num: n, ID: api.ID(n), At: n}
				Scan(Write(token, token))
			}
		}
	}
}

// everyRow calls do with all rows of these pieces, up to most of them.
func everyRow(pieces []string, most int, do func(string)) {
	rows := []string{""}
	for range most + 1 {
		var next []string
		for _, row := range rows {
			do(row)
			for _, piece := range pieces {
				next = append(next, row+piece)
			}
		}
		rows = next
	}
}

// P22.1, P22.2: all texts of some few signs.
func TestAllTexts(t *testing.T) {
	check := func(s string) { hold(t, s) }
	everyRow([]string{"a", "0", "1", "'", " ", ".", "#"}, 6, check)
	everyRow([]string{".", ":", " ", "-"}, 8, check)
	everyRow([]string{"'", "\n", "a", "#", "\t"}, 6, check)
	everyRow([]string{"0", "9", "a", "_", " "}, 6, check)
	everyRow([]string{"a", "_", "0", "7", "'", "\n", " ", "\t", "#", sixteen, "::", "..", ".", "(", "A", "\xc3"}, 4, check)
	everyRow([]string{"abcdefgh", "12345678", "9", "z", "#", " "}, 6, check)
}

// P22.1, P22.2: random texts, of pieces and of bytes, short and around the bound.
func TestRandomTexts(t *testing.T) {
	pieces := []string{"a", "main", "x_1", "_", "0", "1", "42", "12345678", "'", "''", "'a b'", "#", "#" + sixteen, sixteen, "#ffffffffffffffff", "A", "\n", "\xff", ".", ":", " ", "\t", "  ", "abcdefgh"}
	pieces = append(pieces, allSigns...)
	for seed := range int64(20000) {
		r := rand.New(rand.NewSource(seed))
		var s strings.Builder
		for range r.Intn(20) {
			s.WriteString(pieces[r.Intn(len(pieces))])
		}
		hold(t, s.String())
		bytes := make([]byte, r.Intn(12))
		for i := range bytes {
			bytes[i] = byte(r.Intn(256))
		}
		hold(t, string(bytes))
		for i := range bytes {
			bytes[i] = byte(9 + r.Intn(118))
		}
		hold(t, string(bytes))
	}
}

// randomToken is one of any kind.
func randomToken(r *rand.Rand) Token {
	switch Kind(1 + r.Intn(5)) {
	case Name:
		s := letters[r.Intn(26):][:1]
		for range r.Intn(16) {
			s += (letters + numerals + "_")[r.Intn(37):][:1]
		}
		return name(s, 0)
	case Num:
		return num(r.Intn(int(math.Pow10(r.Intn(10)))), 0)
	case Text:
		every, s := everyText(), ""
		for range r.Intn(30) {
			s += every[r.Intn(len(every)):][:1]
		}
		return text(s, 0)
	case Hash:
		return hash(api.ID(r.Uint64()>>r.Intn(64)), 0)
	}
	return sign(allSigns[r.Intn(len(allSigns))], 0)
}

// P22.1, P22.2: random tokens, written and scanned again; then with a byte turned, taken out or put in, and with blanks between.
func TestRandomTokens(t *testing.T) {
	for seed := range int64(5000) {
		r := rand.New(rand.NewSource(seed))
		var tokens []Token
		for range r.Intn(12) {
			tokens = append(tokens, randomToken(r))
		}
		if seed%50 == 0 {
			for range 100 {
				tokens = append(tokens, randomToken(r))
			}
		}
		holdWritten(t, tokens)
		written := Write(tokens...)
		if written == "" {
			continue
		}
		at := r.Intn(len(written))
		one := string([]byte{byte(r.Intn(128))})
		hold(t, written[:at]+one+written[at+1:])
		hold(t, written[:at]+one+written[at:])
		hold(t, written[:at]+written[at+1:])
		hold(t, written[:at])
		hold(t, written[at:])
		hold(t, strings.ReplaceAll(written, " ", ""))
		hold(t, "\t"+strings.ReplaceAll(written, " ", " \t ")+" ")
	}
}

// inside: does a text lie within another one's bytes?
func inside(part, whole string) bool {
	if part == "" || whole == "" {
		return false
	}
	at, from := uintptr(unsafe.Pointer(unsafe.StringData(part))), uintptr(unsafe.Pointer(unsafe.StringData(whole)))
	return from <= at && at < from+uintptr(len(whole))
}

// Rule 3: what is answered is new memory; what is handed in is not kept.
func TestAnswersAreNew(t *testing.T) {
	const s = "heads(all()) - 'a b' .. #00000000000000ff ^ 2"
	bytes := []byte(s)
	handed := unsafe.String(unsafe.SliceData(bytes), len(bytes))
	tokens, _, e := Scan(handed)
	want, _, _ := tokensOf(s)
	if string(bytes) != s || e != api.OK {
		t.Fatalf("%q, %v", bytes, e)
	}
	for _, token := range tokens {
		if inside(token.Text, handed) {
			t.Errorf("%#v lies in what was handed in", token)
		}
	}
	clear(bytes)
	if !slices.Equal(tokens, want) {
		t.Errorf("%#v, want %#v", tokens, want)
	}
	again, _, _ := Scan(s)
	spare := tokens[:cap(tokens)]
	for i := range spare {
		spare[i] = Token{Kind: 9, Text: "other", Num: 9, ID: 9, At: 9}
	}
	if third, _, _ := Scan(s); !slices.Equal(again, want) || !slices.Equal(third, want) {
		t.Errorf("%#v, %#v, want %#v", again, third, want)
	}
}

// Rule 3: Write neither changes nor keeps its tokens, their spare room neither, and its text is new.
func TestTokensHandedIn(t *testing.T) {
	texts := []byte("main")
	shared := unsafe.String(unsafe.SliceData(texts), len(texts))
	for _, kind := range []Kind{Name, Text, Sign} {
		written := Write(Token{Kind: kind, Text: shared})
		want := strings.Clone(written)
		if inside(written, shared) {
			t.Errorf("the text of kind %d lies in what was handed in", kind)
		}
		copy(texts, "side")
		if written != want {
			t.Errorf("%q, want %q", written, want)
		}
		copy(texts, "main")
	}
	tokens := some()
	for i := range tokens {
		tokens[i].At = i + 5
	}
	before := slices.Clone(tokens)
	written := Write(tokens[:3]...)
	if !slices.Equal(tokens, before) {
		t.Errorf("handed in, and changed: %#v", tokens)
	}
	clear(tokens)
	if written != "a z all" {
		t.Errorf("%q", written)
	}
}

// Rule 4: what is told hangs on the text alone, whatever was asked before.
func TestAskedAgain(t *testing.T) {
	texts := []string{"a..b^2", "", "a.b", "'x", strings.Repeat("a", 1025), "#" + sixteen, "7 'a'"}
	for _, first := range texts {
		for _, then := range texts {
			Scan(first)
			Write(some()...)
			hold(t, then)
		}
	}
}
