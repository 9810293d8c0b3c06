package cmd

import (
	"fmt"
	"maps"
	"regexp"
	"slices"
	"strconv"
	"strings"
	"testing"

	"forebear/api"
	"forebear/bisect"
	"forebear/chain"
	"forebear/disk"
	"forebear/frame"
	"forebear/graph"
	"forebear/store"
)

// table is the left side of the chapter's: of words with .. there may be any number, one with ? may be missing.
const table = `
file P WORD..
drop P
move P Q
commit NAME DATE REV..
checkout REV
ref NAME REV
tag NAME REV
unref NAME
index REV..
merge N
unindex N
cut A B
restart
spoil FILE AT MASK
log ORDER SET SET?
is REV REV
touching PATHS SET
simplify MODE PATHS SET SET?
blame REV P
describe REV
rev WORD WORD..
good REV
bad REV
skip REV
clear
next
stat
`

func rows() map[string][]string {
	all := map[string][]string{}
	for _, line := range strings.Split(strings.TrimSpace(table), "\n") {
		words := strings.Fields(line)
		all[words[0]] = words[1:]
	}
	return all
}

// kindsOf tells what so many words are, that stand behind a command; false, if it takes not so many.
func kindsOf(row []string, count int) ([]string, bool) {
	var kinds []string
	for _, word := range row {
		if kind, many := strings.CutSuffix(word, ".."); many {
			for len(kinds) < count {
				kinds = append(kinds, kind)
			}
		} else if kind, perhaps := strings.CutSuffix(word, "?"); !perhaps || len(kinds) < count {
			kinds = append(kinds, kind)
		}
	}
	return kinds, len(kinds) == count
}

// plain does lines by the chapter's table: what happens by the calls that it names, on a disk of its own, what is asked on the raw commits.
type plain struct {
	d    *disk.Disk
	s    *store.Store
	c    *chain.Chain
	b    *bisect.Bisect
	work map[string]string
	// The answers that were accepted.
	answers []said
}

func newPlain() *plain {
	p := &plain{d: disk.New(), work: map[string]string{}}
	if e := p.open(); e != api.OK {
		panic(e)
	}
	return p
}

func (p *plain) open() api.Errno {
	s, e := store.Open(p.d)
	if e != api.OK {
		return e
	}
	c, e := chain.Open(p.d, s)
	if e != api.OK {
		return e
	}
	b, e := bisect.Open(p.d, graph.New(s, nil))
	if e != api.OK {
		return e
	}
	p.s, p.c, p.b, p.answers = s, c, b, p.answersOf()
	return api.OK
}

// read is what the words of a line tell.
type read struct {
	numbers []int
	revs    []api.ID
	sets    [][]api.ID
	paths   []string
}

var isNumber = regexp.MustCompile(`^[0-9]{1,15}$`).MatchString

// read reads one word.
func (r *read) read(h *past, kind, word string) api.Errno {
	switch kind {
	case "DATE", "N", "A", "B", "AT", "MASK":
		if !isNumber(word) {
			return api.ErrForm
		}
		n, _ := strconv.ParseInt(word, 10, 64)
		r.numbers = append(r.numbers, int(n))
	case "REV", "SET":
		x, e := h.revisions(word)
		if e == api.OK && kind == "REV" && len(x) != 1 {
			e = api.ErrCount
		}
		if e != api.OK {
			return e
		}
		r.sets = append(r.sets, x.rising())
		r.revs = append(r.revs, x.rising()...)
	case "PATHS":
		if word == "-" {
			return api.OK
		}
		r.paths = strings.Split(word, ",")
		if len(r.paths) > 16 {
			return api.ErrLong
		}
		for _, p := range r.paths {
			if !isPath(p) {
				return api.ErrName
			}
		}
	case "ORDER":
		if word != "date" && word != "topo" {
			return api.ErrForm
		}
	case "MODE":
		if !slices.Contains([]string{"default", "full", "merges", "ancestry"}, word) {
			return api.ErrForm
		}
	}
	return api.OK
}

// toldAs is what an error is told as; or else the answer.
func toldAs(answer string, e api.Errno) string {
	if e != api.OK {
		return fmt.Sprintf("error %d", int(e))
	}
	return answer
}

func orNone(parts []string) string {
	if len(parts) == 0 {
		return "none"
	}
	return strings.Join(parts, " ")
}

func (p *plain) do(words ...string) string {
	if len(words) == 0 {
		return ""
	}
	row, there := rows()[words[0]]
	kinds, fits := kindsOf(row, len(words)-1)
	if !there || !fits {
		return "error 40"
	}
	h := pastOf(p.s)
	r := &read{sets: [][]api.ID{}}
	for i, word := range words[1:] {
		if e := r.read(h, kinds[i], word); e != api.OK {
			return toldAs("", e)
		}
	}
	if answer, is := p.ask(h, r, words); is {
		return answer
	}
	return toldAs(p.act(r, words))
}

// ask is for the commands that change nothing.
func (p *plain) ask(h *past, r *read, words []string) (string, bool) {
	var nots []api.ID
	if len(r.sets) > 1 {
		nots = r.sets[1]
	}
	switch words[0] {
	case "log":
		return orNone(hexOf(h.walk(words[1], r.sets[0], nots))), true
	case "is":
		if h.isFrom(r.revs[0], r.revs[1]) {
			return "yes", true
		}
		return "no", true
	case "touching":
		return orNone(hexOf(h.touching(r.paths, r.sets[0]))), true
	case "simplify":
		return orNone(h.simplified(words[1], r.paths, r.sets[0], nots)), true
	case "blame":
		parts, e := h.blamed(r.revs[0], words[2])
		return toldAs(orNone(parts), e), true
	case "describe":
		return h.described(r.revs[0]), true
	case "rev":
		x, e := h.revisions(strings.Join(words[1:], " "))
		return toldAs(orNone(hexOf(x.rising())), e), true
	case "next":
		return h.next(p.answers), true
	case "stat":
		return p.stat(), true
	}
	return "", false
}

// answersOf are those in the file of the bisection, which was opened: each one was accepted.
func (p *plain) answersOf() []said {
	file, _ := p.d.Read("bisect")
	var list []said
	for {
		f, size, e := frame.Open(file)
		if e != api.OK {
			return list
		}
		a := said{says: f.Body[0]}
		for _, b := range f.Body[1:] {
			a.id = a.id<<8 | api.ID(b)
		}
		list = append(list, a)
		file = file[size:]
	}
}

func (p *plain) stat() string {
	sizes := strings.Join(strings.Fields(strings.Trim(fmt.Sprint(p.c.Sizes()), "[]")), ",")
	if sizes == "" {
		sizes = "-"
	}
	covered := "yes"
	for _, id := range p.s.Commits() {
		if _, is := p.c.Place(id); !is {
			covered = "no"
		}
	}
	return fmt.Sprintf("commits %d layers %s covered %s", len(p.s.Commits()), sizes, covered)
}

func (p *plain) act(r *read, words []string) (string, api.Errno) {
	switch words[0] {
	case "file", "drop", "move", "checkout":
		return "ok", p.change(r, words)
	case "commit":
		return p.commit(r, words[1])
	case "ref":
		return "ok", p.s.SetRef(words[1], r.revs[0])
	case "tag":
		return "ok", p.s.SetTag(words[1], r.revs[0])
	case "unref":
		return "ok", p.s.DropRef(words[1])
	case "index":
		return "ok", p.c.Write(r.revs...)
	case "merge":
		return "ok", p.c.Merge(r.numbers[0])
	case "unindex":
		return "ok", p.c.Drop(r.numbers[0])
	case "cut":
		return "ok", p.d.Cut(r.numbers[0], r.numbers[1])
	case "spoil":
		if words[1] == "objects" {
			return "", api.ErrName
		}
		if e := p.d.Spoil(words[1], r.numbers[0], byte(r.numbers[1]%256)); e != api.OK {
			return "", e
		}
		p.d.Restart()
		return "ok", p.open()
	case "restart":
		p.d.Restart()
		return "ok", p.open()
	}
	return "ok", p.answer(r, words[0])
}

func (p *plain) answer(r *read, command string) api.Errno {
	if command == "clear" {
		e := p.b.Clear()
		if e == api.OK {
			p.answers = nil
		}
		return e
	}
	id := r.revs[0]
	says := byte(1 + slices.Index([]string{"good", "bad", "skip"}, command))
	e := []func() api.Errno{
		func() api.Errno { return p.b.Good(id) },
		func() api.Errno { return p.b.Bad(id) },
		func() api.Errno { return p.b.Skip(id) },
	}[says-1]()
	if e == api.OK {
		p.answers = append(p.answers, said{says, id})
	}
	return e
}

// change is for what happens to the work tree alone.
func (p *plain) change(r *read, words []string) api.Errno {
	was, there := "", true
	switch words[0] {
	case "drop", "move":
		if was, there = p.work[words[1]]; !there {
			return api.ErrMissing
		}
	case "checkout":
		p.work = maps.Clone(pastOf(p.s).commits[r.revs[0]].files)
		return api.OK
	}
	switch words[0] {
	case "file":
		if !isPath(words[1]) {
			return api.ErrName
		}
		p.work[words[1]] = strings.Join(append(words[2:len(words):len(words)], ""), "\n")
	case "drop":
		delete(p.work, words[1])
	case "move":
		if !isPath(words[2]) {
			return api.ErrName
		}
		delete(p.work, words[1])
		p.work[words[2]] = was
	}
	return api.OK
}

func (p *plain) commit(r *read, name string) (string, api.Errno) {
	if !isName(name) {
		return "", api.ErrName
	}
	var entries []api.Entry
	for _, at := range slices.Sorted(maps.Keys(p.work)) {
		blob, e := p.s.Blob([]byte(p.work[at]))
		if e != api.OK {
			return "", e
		}
		entries = append(entries, api.Entry{Path: at, Blob: blob})
	}
	tree, e := p.s.Tree(entries...)
	if e != api.OK {
		return "", e
	}
	id, e := p.s.Commit(api.Commit{Tree: tree, Parents: r.revs, Date: int64(r.numbers[0]), Note: name})
	if e != api.OK {
		return "", e
	}
	return hex(id), p.s.SetRef(name, id)
}

// world is a console, and the plain one beside it.
type world struct {
	t testing.TB
	c *Console
	p *plain
	// The lines that were done, to be told when something is wrong.
	lines []string
	// The commits, in the order in which they were told.
	ids []string
}

func newWorld(t testing.TB) *world { return &world{t: t, c: New(), p: newPlain()} }

// state is what a disk, its store, its chain and the work tree tell.
func state(d *disk.Disk, s *store.Store, c *chain.Chain, work map[string]string) string {
	var list []string
	for _, name := range d.Names() {
		file, _ := d.Read(name)
		list = append(list, fmt.Sprintf("%s %x", name, file))
	}
	list = append(list, fmt.Sprint(d.Dead(), d.Writes(), s.Commits(), s.Refs(), s.Tags(), c.Names(), c.Sizes(), work))
	return strings.Join(list, "\n")
}

func (c *Console) texts() map[string]string {
	all := map[string]string{}
	for p, text := range c.work {
		all[p] = string(text)
	}
	return all
}

// do does a line on both, holds the answers against each other, and what they left.
func (w *world) do(words ...string) string {
	w.t.Helper()
	w.lines = append(w.lines, fmt.Sprintf("%q", words))
	got, want := w.c.Do(words...), w.p.do(words...)
	if got != want {
		w.t.Fatalf("%s\nanswered %s, not %s", strings.Join(w.lines, "\n"), got, want)
	}
	left := state(w.c.disk, w.c.store, w.c.chain, w.c.texts())
	if asked := state(w.p.d, w.p.s, w.p.c, w.p.work); left != asked {
		w.t.Fatalf("%s\nleft %s, not %s", strings.Join(w.lines, "\n"), left, asked)
	}
	if len(words) > 0 && words[0] == "commit" && len(got) == 16 {
		w.ids = append(w.ids, got)
	}
	return got
}
