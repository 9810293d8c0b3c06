package cmd

import (
	"fmt"
	"reflect"
	"strings"
	"testing"
	"unsafe"

	"forebear/api"
)

// wantRun holds Run of a script against what its lines are answered, each with a line end behind it.
func wantRun(t testing.TB, script string, answers ...string) {
	t.Helper()
	want := ""
	for _, answer := range answers {
		want += answer + "\n"
	}
	if got, e := Run(script); e != api.OK || got != want {
		t.Errorf("%.200q: answered %.200q, %v, not %.200q", script, got, e, want)
	}
}

func wantLong(t testing.TB, what, script string) {
	t.Helper()
	if got, e := Run(script); e != api.ErrLong || got != "" {
		t.Errorf("%s: answered %.200q, %v", what, got, e)
	}
}

const empty = "commits 0 layers - covered yes"

func TestRun(t *testing.T) {
	wantRun(t, "")
	wantRun(t, "\n")
	wantRun(t, "\n\n\n")
	wantRun(t, " ")
	wantRun(t, "   \n \n\n  ")
	wantRun(t, "stat", empty)
	wantRun(t, "stat\n", empty)
	wantRun(t, "\nstat\n\n", empty)
	wantRun(t, "  stat  \n", empty)
	wantRun(t, " stat ", empty)
	wantRun(t, "stat\nnext", empty, "waiting")
	wantRun(t, "stat\n \nnext\n ", empty, "waiting")
	wantRun(t, "  file   f   x  y\n commit  main    1\nblame main f  x\nis  main main\n", "ok", "8117d5b9948e190f", "error 40", "yes")
	wantRun(t, "fly\nstat x", "error 40", "error 40")
}

// TestBytesOfLines: bytes 10 alone part lines, bytes 32 alone words.
func TestBytesOfLines(t *testing.T) {
	for _, b := range []string{"\t", "\r", "\v", "\f", "\x00", "\x85", "\xa0", "\u00a0", "\u2028", "\u2003", "\xff", "-", "/"} {
		wantRun(t, "stat"+b, "error 40")
		wantRun(t, b, "error 40")
		wantRun(t, " "+b+" \n"+b, "error 40", "error 40")
		wantRun(t, "next"+b+"next\nnext "+b, "error 40", "error 40")
		wantRun(t, "stat"+b+"\nnext", "error 40", "waiting")
		wantRun(t, "file f"+b+" x\nfile f "+b+" "+b, "error 2", "ok")
	}
}

// TestRunAndDo: a script is its lines, one after the other, on one console.
func TestRunAndDo(t *testing.T) {
	lines := []string{"file f a b", "commit main 1", "tag v main", "file f a x b", "commit main 2 main", "index", "blame main f", "log date main", "bad main", "next", "cut 0 0", "ref a main", "restart", "ref a main", "stat", "rev refs() | tags()", "fly", "describe main"}
	c := New()
	var answers []string
	for _, line := range lines {
		answers = append(answers, c.Do(strings.Fields(line)...))
	}
	wantRun(t, strings.Join(lines, "\n"), answers...)
	wantRun(t, strings.Join(lines, "\n\n  \n")+"\n\n", answers...)
	wantRun(t, "  "+strings.Join(lines, "   \n   "), answers...)
	// And on a new one each time.
	wantRun(t, strings.Join(lines, "\n"), answers...)
	wantRun(t, "stat", empty)
}

func TestMaxScript(t *testing.T) {
	wantRun(t, strings.Repeat(" ", 65536))
	wantLong(t, "a blank more", strings.Repeat(" ", 65537))
	wantRun(t, strings.Repeat("\n", 65536))
	wantLong(t, "a line end more", strings.Repeat("\n", 65537))
	wantRun(t, strings.Repeat("\n", 65532)+"stat", empty)
	wantLong(t, "a line end ahead", strings.Repeat("\n", 65533)+"stat")
	wantLong(t, "a line end behind", strings.Repeat("\n", 65532)+"stat\n")
	wantRun(t, "file f "+strings.Repeat("x", 65529), "ok")
	wantLong(t, "a word of a byte more", "file f "+strings.Repeat("x", 65530))
	wantRun(t, strings.Repeat("x ", 32768), "error 40")
	wantLong(t, "many bytes", strings.Repeat("stat\n", 1<<16))
}

func TestMaxCommands(t *testing.T) {
	many := func(n int) []string {
		list := make([]string, n)
		for i := range list {
			list[i] = empty
		}
		return list
	}
	wantRun(t, strings.Repeat("stat\n", 500), many(500)...)
	wantRun(t, strings.TrimSpace(strings.Repeat("stat\n", 500)), many(500)...)
	wantRun(t, strings.Repeat("\n \nstat\n  \n", 500), many(500)...)
	wantRun(t, strings.Repeat("\n", 1000)+strings.Repeat("stat\n", 499), many(499)...)
	wantLong(t, "one more", strings.Repeat("stat\n", 501))
	wantLong(t, "one more without a line end", strings.Repeat("stat\n", 500)+"stat")
	wantLong(t, "one more that is no command", strings.Repeat("stat\n", 500)+"\t")
	wantLong(t, "one more among empty ones", strings.Repeat("\n \nstat\n  \n", 501))
	wantLong(t, "many more", strings.Repeat("x\n", 30000))
	if got, e := Run(strings.Repeat("x\n", 500)); e != api.OK || got != strings.Repeat("error 40\n", 500) {
		t.Error(e, got)
	}
}

// TestManyCommands: as many commits as a script can make, and what is asked of them.
func TestManyCommands(t *testing.T) {
	var script strings.Builder
	script.WriteString("commit main 1\n")
	for n := range 480 {
		fmt.Fprintf(&script, "commit main %d main\n", n+2)
	}
	script.WriteString("index\nstat\ntag v main\nbad main\nnext\ndescribe main\nlog topo all()\nrev bases(all())\nsimplify full - all()\n")
	answer, e := Run(script.String())
	if lines := strings.Split(answer, "\n"); e != api.OK || len(lines) != 491 || lines[482] != "commits 481 layers 481 covered yes" || len(strings.Fields(lines[487])) != 481 {
		t.Error(e, len(lines))
	}
}

// TestConsolesApart: two consoles know nothing of each other.
func TestConsolesApart(t *testing.T) {
	a, b := newWorld(t), newWorld(t)
	a.answers(`
file f x => ok
commit main 1 => $1
index => ok
bad main => ok
tag v main => ok
`)
	b.answers(`
stat => commits 0 layers - covered yes
next => waiting
rev main => error 5
drop f => error 5
file f y => ok
commit main 1 => $1
cut 0 0 => ok
tag v main => error 8
`)
	a.answers(`
tag w main => ok
next => found $1
drop f => ok
stat => commits 1 layers 1 covered yes
unindex 1 => ok
clear => ok
`)
	b.answers(`
restart => ok
next => waiting
rev tags() => none
drop f => ok
stat => commits 1 layers - covered no
`)
	if a.ids[0] == b.ids[0] {
		t.Error(a.ids, b.ids)
	}
}

// TestWordsAreNotChanged: neither the words that are handed in nor the room behind them.
func TestWordsAreNotChanged(t *testing.T) {
	c := New()
	for _, line := range []string{"file f x y", "file g", "commit main 1", "commit main 2 main", "move f h", "index main", "index", "log date main main", "log topo main", "simplify full - all()", "simplify full f,g all() none()", "touching f,g all()", "blame main f", "is main main", "rev main | main", "bad main", "skip main", "tag v main", "describe main", "spoil chain 0 0", "checkout main", "drop f", "fly away", "cut 1 1", "merge x"} {
		words := strings.Fields(line)
		for have := range len(words) {
			room := append(strings.Fields(line), "behind", "all", "of", "it")
			c.Do(room[:have+1]...)
			if got := strings.Join(room, " "); got != line+" behind all of it" {
				t.Errorf("%s: left %s", line, got)
			}
		}
	}
}

// TestWordsAreNotKept: what is handed in may be written over behind the call.
func TestWordsAreNotKept(t *testing.T) {
	c := New()
	var bytes [][]byte
	do := func(want, line string) {
		t.Helper()
		var words []string
		for _, word := range strings.Fields(line) {
			b := []byte(word)
			bytes = append(bytes, b)
			words = append(words, unsafe.String(&b[0], len(b)))
		}
		got := c.Do(words...)
		for i := range words {
			words[i] = "gone"
		}
		for _, b := range bytes {
			for i := range b {
				b[i] = 'z'
			}
		}
		if want != "" && got != want {
			t.Errorf("%s: answered %s, not %s", line, got, want)
		}
	}
	do("ok", "file f x y")
	do("ok", "file g z")
	do("ok", "move g h")
	do("", "commit main 1")
	do("ok", "ref side main")
	do("ok", "tag v main")
	do("ok", "drop h")
	do("ok", "checkout main")
	do("ok", "drop h")
	do("ok", "drop f")
	do("yes", "is side main")
	do("v", "describe main")
	do("ok", "bad main")
	do("ok", "unref side")
	do("error 5", "unref side")
	do("ok", "restart")
	do("v", "describe main")
}

// TestOpeningThatFails leaves store, chain and bisection as they were: the disk has no more room for the next chain file.
func TestOpeningThatFails(t *testing.T) {
	for _, line := range []string{"spoil layer.2 0 1", "restart"} {
		w := layered(t).answers(`
bad d => ok
good a => ok
unindex 1 => ok
file f x => ok
`)
		next := w.do("next")
		c := w.c
		if line == "restart" {
			if e := c.disk.Spoil("layer.2", 0, 1); e != api.OK {
				t.Fatal(e)
			}
		}
		for n := 0; len(c.disk.Names()) < api.MaxDiskFiles; n++ {
			c.disk.Put(fmt.Sprint("other.", n))
		}
		want := func(answer, line string) {
			t.Helper()
			if got := c.Do(strings.Fields(line)...); got != answer {
				t.Errorf("%s: answered %s, not %s", line, got, answer)
			}
		}
		want("ok", "cut 0 0")
		want("error 8", "tag v a")
		was := c.opened
		want("error 7", line)
		if c.opened != was {
			t.Errorf("%s: opened anew", line)
		}
		want("commits 6 layers 1,2 covered no", "stat")
		want(next, "next")
		want("ok", "drop f")
		// The disk was restarted all the same.
		want("ok", "tag v a")
		c.disk.Remove("other.1")
		want("ok", "restart")
		want("commits 6 layers 1 covered no", "stat")
		want(next, "next")
		want("v", "describe a")
		if was := c.opened; was.store == nil || was.chain == nil || was.hunt == nil {
			t.Error(line)
		}
	}
}

// TestFullDisk: a file of a disk has no more than MaxDisk bytes.
func TestFullDisk(t *testing.T) {
	w := newWorld(t)
	w.want("$1", "commit", "main", "1")
	full := false
	for n := 0; n < 80 && !full; n++ {
		w.do("file", "f", strings.Repeat(fmt.Sprintf("%04d", n), 1000))
		got := w.do("commit", "main", fmt.Sprint(n), "main")
		full = got == "error 7"
		w.lines = nil
	}
	if !full {
		t.Fatal("not full")
	}
	was := w.do("stat")
	w.want("error 7", "commit", "main", "1")
	w.want("ok", "file", "f", "x")
	for n := 0; w.do("tag", fmt.Sprint("t", n), "main") == "ok"; n++ {
	}
	w.want("error 7", "tag", "w", "main")
	w.want("error 7", "ref", "main", "main")
	w.want("ok", "restart")
	w.want(was, "stat")
	w.want("ok", "index")
	w.want("ok", "bad", "main")
	w.want("ok", "checkout", "main")
}

func TestVariadic(t *testing.T) {
	if !reflect.TypeOf((*Console).Do).IsVariadic() {
		t.Error("Do takes no words one by one")
	}
	if New() == New() {
		t.Error("one console twice")
	}
}
