package cmd

import (
	"fmt"
	"math/rand"
	"slices"
	"strings"
	"testing"

	"forebear/api"
)

func pick[T any](r *rand.Rand, list ...T) T { return list[r.Intn(len(list))] }

// maker makes lines: of a hundred so many have a word that is odd.
type maker struct {
	*rand.Rand
	odd int
	// Each command as often as it is to be met among the others.
	often string
	// The commits that were told.
	ids []string
}

func (m *maker) isOdd() bool { return m.Intn(100) < m.odd }

func (m *maker) name() string {
	if m.isOdd() {
		return pick(m.Rand, "", "A", "a/b", "9", "a.b", "abcdefghijklmnopq", "nobody")
	}
	return pick(m.Rand, "a", "b", "c", "main")
}

func (m *maker) path() string {
	if m.isOdd() {
		return pick(m.Rand, "", "-", "A", "f/", "f//g", "f/g/h/i/j/k/l", "nothing", "f/g")
	}
	return pick(m.Rand, "f", "g", "d/x", "d/y", "k")
}

func (m *maker) paths() string {
	if m.isOdd() {
		return pick(m.Rand, "", ",", "f,", "f,A", "-,f", strings.Repeat("f,", 16)+"f")
	}
	return pick(m.Rand, "-", "f", "g", "d", "d/x", "f,g", "d/y,f", "k,d", "f/x", "f,f", "g,k,d/x,d")
}

func (m *maker) atom() string {
	if len(m.ids) > 0 && m.Intn(4) == 0 {
		return "#" + pick(m.Rand, m.ids...)
	}
	return pick(m.Rand, "a", "b", "c", "main")
}

func (m *maker) rev() string {
	if m.isOdd() {
		return pick(m.Rand, "", "?", "nobody", "all()", "none()", "3", "a|", "f()", "all(a)", "a^", "a|b", "#0000000000000001", "heads(all())", "ref('a')")
	}
	return pick(m.Rand, m.atom(), m.atom(), m.atom(), m.atom()+"^1", "latest(all(),1)")
}

func (m *maker) set() string {
	if m.isOdd() {
		return m.rev()
	}
	return pick(m.Rand, m.atom(), m.atom(), "all()", "none()", "refs()", "tags()", m.atom()+"|"+m.atom(), m.atom()+".."+m.atom(), m.atom()+"::"+m.atom(), "heads(all())", "roots(all())", "merges(all())",
		"all()-"+m.atom(), "!"+m.atom(), m.atom()+"^", m.atom()+"^2", "ancestors("+m.atom()+",2)", "descendants("+m.atom()+")", "bases("+m.atom()+"|"+m.atom()+")", "touching(all(),'f')", "touching(all(),'d')",
		"latest(all(),3)", "before(all(),4)", "since(all(),3)", "common("+m.atom()+",refs())", "children("+m.atom()+")", "ref('a')|all()")
}

func (m *maker) number(most int) string {
	if m.isOdd() {
		return pick(m.Rand, "", "-1", "x", "1x", "9999999999999999", "999999999999999", "007")
	}
	return fmt.Sprint(m.Intn(most + 1))
}

// one of words, or an odd one.
func (m *maker) one(words ...string) string {
	if m.isOdd() {
		return pick(m.Rand, "", "A", "dates", "1")
	}
	return pick(m.Rand, words...)
}

func (m *maker) revs(most int) []string {
	var list []string
	for range m.Intn(most + 1) {
		list = append(list, m.rev())
	}
	return list
}

func (m *maker) text() []string {
	var list []string
	for range m.Intn(5) {
		list = append(list, pick(m.Rand, "1", "2", "3", "4"))
	}
	return list
}

// perhaps is a word, or none.
func (m *maker) perhaps(word string) []string {
	if m.Intn(2) == 0 {
		return nil
	}
	return []string{word}
}

// words of a row of the table, the command ahead.
func (m *maker) words(command string, row []string) []string {
	words := []string{command}
	for _, kind := range row {
		switch kind {
		case "P", "Q":
			words = append(words, m.path())
		case "NAME":
			words = append(words, m.name())
		case "REV":
			words = append(words, m.rev())
		case "REV..":
			words = append(words, m.revs(3)...)
		case "WORD..":
			if command == "file" {
				words = append(words, m.text()...)
			} else {
				words = append(words, m.perhaps("| "+m.set())...)
			}
		case "WORD", "SET":
			words = append(words, m.set())
		case "SET?":
			words = append(words, m.perhaps(m.set())...)
		case "DATE":
			words = append(words, m.number(6))
		case "N":
			words = append(words, m.number(4))
		case "A":
			words = append(words, m.number(12))
		case "B":
			words = append(words, pick(m.Rand, "0", "1", "30", "999", m.number(60)))
		case "FILE":
			words = append(words, pick(m.Rand, "layer.1", "layer.2", "layer.3", "layer.4", "chain", "bisect", "objects", "chain.new", m.name()))
		case "AT":
			words = append(words, pick(m.Rand, "0", "20", m.number(200)))
		case "MASK":
			words = append(words, m.number(300))
		case "PATHS":
			words = append(words, m.paths())
		case "ORDER":
			words = append(words, m.one("date", "topo"))
		case "MODE":
			words = append(words, m.one("default", "full", "merges", "ancestry"))
		default:
			panic(kind)
		}
	}
	return words
}

const often = `
file file file file file file file drop move move move commit commit commit commit commit commit commit commit commit commit commit checkout checkout checkout
ref ref tag tag unref index index index index index index merge merge merge unindex cut cut restart restart spoil spoil
log log is touching simplify simplify blame blame describe rev rev good good bad bad skip clear next next stat
`

// calm is without what takes layers away.
const calm = `
file file file drop move commit commit commit commit commit checkout index index index index restart
log log is touching simplify simplify blame describe rev bad skip next stat
`

// line is one that tells much: most of them change something.
func (m *maker) line() []string {
	command := pick(m.Rand, strings.Fields(m.often)...)
	words := m.words(command, rows()[command])
	if m.isOdd() {
		switch m.Intn(4) {
		case 0:
			words = words[:len(words)-1]
		case 1:
			words = append(words, m.atom())
		case 2:
			words[0] = pick(m.Rand, "", "fly", "File")
		}
	}
	return words
}

// begin makes the refs that the maker names: of most worlds.
func begin(w *world, seed int) {
	if seed%10 == 9 {
		return
	}
	for _, line := range beginning() {
		w.do(strings.Fields(line)...)
	}
}

func TestRandomScripts(t *testing.T) {
	count := map[string]int{}
	for seed := range 500 {
		w := newWorld(t)
		m := &maker{Rand: rand.New(rand.NewSource(int64(seed))), odd: 3, often: often}
		if seed%5 == 4 {
			m.often = calm
		}
		begin(w, seed)
		for range 90 {
			words := m.line()
			got := w.do(words...)
			m.ids = w.ids
			kind := got
			if !strings.HasPrefix(got, "error") {
				kind = strings.Fields(got + " nothing")[0]
				if len(kind) >= 16 || strings.Contains(kind, ":") {
					kind = "told"
				}
			}
			if len(words) > 0 {
				count[words[0]+" "+kind]++
				count[words[0]]++
			}
			count[kind]++
		}
	}
	for kind, least := range map[string]int{
		"error 2": 200, "error 3": 300, "error 4": 4, "error 5": 300, "error 6": 60, "error 8": 300, "error 9": 150, "error 12": 5, "error 16": 10, "error 20": 50, "error 30": 20, "error 31": 60, "error 33": 20, "error 34": 500, "error 35": 15, "error 40": 200,
		"commit told": 2000, "commit error 8": 300, "index ok": 1000, "index error 8": 100, "merge ok": 60, "merge error 8": 20, "unindex ok": 50, "unindex error 8": 10, "spoil ok": 100, "restart ok": 300, "log told": 300, "log none": 100,
		"is yes": 100, "is no": 100, "touching told": 200, "simplify told": 200, "blame told": 200, "blame none": 10, "describe told": 200, "describe main": 5, "rev told": 300,
		"next waiting": 200, "next offer": 100, "next found": 100, "next stuck": 4, "move ok": 300, "drop ok": 100, "checkout ok": 500, "stat commits": 300,
	} {
		if count[kind] < least {
			t.Errorf("%s: met too seldom to tell much: %d", kind, count[kind])
		}
	}
	if t.Failed() {
		t.Log(count)
	}
}

// beginning makes the refs that the maker names.
func beginning() []string {
	return []string{"commit a 1", "file f 1 2", "file d/x 3", "commit b 2 a", "commit c 2 a", "file f 1 2 4", "commit main 3 b c"}
}

// TestRandomRuns: the lines of a script are answered by Run as they are by Do.
func TestRandomRuns(t *testing.T) {
	for seed := range 100 {
		c := New()
		r := rand.New(rand.NewSource(int64(seed)))
		m := &maker{Rand: r, odd: 2, often: often}
		var script, want strings.Builder
		for n := range 80 {
			words := m.line()
			if begin := beginning(); n < len(begin) {
				words = strings.Fields(begin[n])
			}
			// Such words can't stand in a script.
			if len(words) == 0 || slices.ContainsFunc(words, func(word string) bool { return word == "" || strings.Contains(word, " ") }) {
				continue
			}
			script.WriteString(strings.Repeat(" ", r.Intn(2)) + strings.Join(words, pick(r, " ", "   ")) + pick(r, "\n", " \n", "\n\n"))
			want.WriteString(c.Do(words...) + "\n")
			m.ids = hexOf(c.store.Commits())
		}
		if got, e := Run(script.String()); e != api.OK || got != want.String() {
			t.Errorf("%s\nanswered %s, not %s", script.String(), got, want.String())
		}
	}
}

// isOfLayers: does a command change layers, or what befalls their files, and nothing else?
func isOfLayers(words []string) bool {
	switch words[0] {
	case "index", "merge", "unindex":
		return true
	}
	// The answers of a bisection lie in a file, too.
	return words[0] == "spoil" && !slices.Contains(words, "bisect")
}

// TestAnswersWithoutLayers: a script without its lines of layers has the same answers, but to those lines and to stat.
func TestAnswersWithoutLayers(t *testing.T) {
	left, met := 0, map[string]int{}
	for seed := range 400 {
		with, without := New(), New()
		m := &maker{Rand: rand.New(rand.NewSource(int64(seed))), odd: 2, often: often}
		var lines []string
		for n := range 80 {
			words := m.line()
			if begin := beginning(); n < len(begin) {
				words = strings.Fields(begin[n])
			}
			// How far the power goes hangs on the raw writes of layers.
			if len(words) == 0 || words[0] == "cut" {
				continue
			}
			lines = append(lines, fmt.Sprintf("%q", words))
			got := with.Do(words...)
			if len(got) == 16 && words[0] == "commit" {
				m.ids = append(m.ids, got)
			}
			if isOfLayers(words) {
				left++
				continue
			}
			want := without.Do(words...)
			if got != want && words[0] != "stat" {
				t.Fatalf("%s\nanswered %s, and without layers %s", strings.Join(lines, "\n"), got, want)
			}
			if !strings.HasPrefix(got, "error") && with.chain.Names() != nil {
				met[words[0]]++
			}
		}
	}
	for _, command := range []string{"log", "is", "touching", "simplify", "blame", "describe", "rev", "next"} {
		if met[command] < 50 {
			t.Errorf("%s: met too seldom to tell much: %d", command, met[command])
		}
	}
	if left < 1000 {
		t.Error(left)
	}
}

// asks are lines that tell all of a world but its layers.
func asks() []string {
	return []string{"log date all()", "log topo refs()", "rev refs()", "rev tags()", "simplify merges f all()", "simplify default - main", "touching g all()", "blame main f", "blame side g", "describe main", "next", "is side main"}
}

// tell is the answers of a console, and what its layers are.
func tell(c *Console) (answers, layers string) {
	var list []string
	for _, ask := range asks() {
		list = append(list, c.Do(strings.Fields(ask)...))
	}
	return strings.Join(list, "\n"), c.Do("stat")
}

// wholeScript makes commits, layers and answers.
func wholeScript() []string {
	return strings.Split(strings.TrimSpace(`
file f a b c
commit main 1
index
file f a x c
move f g
commit side 2 main
checkout main
file f a b c d
commit main 3 main
bad main
tag v side
index side
index
file f a x c d
commit main 4 main side
merge 2
index
good side
skip main^1
clear
merge 2
tag w main
bad main
unindex 1
unref side
ref side main^2
index
unindex 2
index
`), "\n")
}

// TestThePowerGoesOff at each raw write: what is opened anew is what was before the line in which it did, or what was behind it; a commit may lack its ref. Then all goes on.
func TestThePowerGoesOff(t *testing.T) {
	script := wholeScript()
	writes := func(c *Console) int { return c.disk.Writes() }
	whole := New()
	for _, line := range script {
		whole.Do(strings.Fields(line)...)
	}
	end, _ := tell(whole)
	if writes(whole) < 55 {
		t.Fatal(writes(whole))
	}
	for after := range writes(whole) {
		for _, keep := range []int{0, 1, 12, 25, 1 << 20} {
			w := newWorld(t)
			w.do("cut", fmt.Sprint(after), fmt.Sprint(keep))
			for n, line := range script {
				wasAnswers, wasLayers := tell(w.c)
				if w.do(strings.Fields(line)...) != "error 8" {
					continue
				}
				told, _ := tell(w.c)
				if told != wasAnswers && !strings.HasPrefix(line, "commit") {
					t.Errorf("%s: %d %d: answered another thing behind an error", line, after, keep)
				}
				w.do("restart")
				answers, layers := tell(w.c)
				// The same lines with the power on.
				isCommit := strings.HasPrefix(line, "commit")
				calm := New()
				for _, line := range script[:n+1] {
					calm.Do(strings.Fields(line)...)
				}
				nextAnswers, nextLayers := tell(calm)
				if answers != wasAnswers && answers != nextAnswers && !isCommit {
					t.Errorf("%s: %d %d: opened anew answered\n%s\nnot\n%s\nnor\n%s", line, after, keep, answers, wasAnswers, nextAnswers)
				}
				if layers != wasLayers && layers != nextLayers && !isCommit {
					t.Errorf("%s: %d %d: opened anew has %s, not %s, nor %s", line, after, keep, layers, wasLayers, nextLayers)
				}
				goOn(w, script[n:])
				break
			}
			// The commits hang on no time: they are the same ones, however often they were put.
			if got, _ := tell(w.c); got != end {
				t.Fatalf("%d %d: answered\n%s\nnot\n%s", after, keep, got, end)
			}
		}
	}
}

// goOn does the line that was cut again, unless it was done, and those behind it.
func goOn(w *world, lines []string) {
	for n, line := range lines {
		words := strings.Fields(line)
		switch {
		case words[0] == "tag" && n == 0:
			// It may be there.
			w.do(words...)
		case words[0] == "commit" && n == 0 && len(w.do("rev", words[1]+" & since(all(), "+words[2]+")")) == 16:
			// So may the commit with its ref.
		default:
			w.do(words...)
		}
	}
}

// TestErrorsLeaveTheWorkTree: file, drop, move and checkout, with each error that they have.
func TestErrorsLeaveTheWorkTree(t *testing.T) {
	w := grown(t)
	w.answers(`
file f other => ok
file k x y => ok
file d/x => ok
`)
	was := fmt.Sprint(w.c.texts())
	for _, line := range []string{
		"file A x", "file f/ x", "file  ", "file", "file f//g", "file a/a/a/a/a/a/a x", "drop q", "drop A", "drop f g", "drop", "drop d", "drop f/x",
		"move q f", "move q A", "move f A", "move k f/", "move d e", "move f", "move f g h", "move k aaaaaaaaaaaaaaaaa",
		"checkout nobody", "checkout all()", "checkout none()", "checkout ?", "checkout 3", "checkout main side", "checkout", "checkout f()", "checkout all(main)", "checkout main|",
		"commit A 1", "commit main x", "commit main 1 nobody", "commit main 9999999999999", "fly f", "File f x",
	} {
		got := w.do(strings.Split(line, " ")...)
		if now := fmt.Sprint(w.c.texts()); !strings.HasPrefix(got, "error ") || now != was {
			t.Errorf("%s: answered %s, left %s", line, got, now)
		}
	}
	w.answers("cut 0 0 => ok\nref main side => error 8\nfile A x => error 2\ndrop q => error 5\nmove k A => error 2\ncheckout nobody => error 5\ncommit main 9 => error 8")
	if now := fmt.Sprint(w.c.texts()); now != was {
		t.Error(now)
	}
	// And these have none, on a dead disk neither.
	w.answers("checkout main => ok\nfile k x => ok\nmove k l => ok\ndrop l => ok")
}
