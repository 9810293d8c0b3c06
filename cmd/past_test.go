package cmd

import (
	"fmt"
	"maps"
	"math"
	"regexp"
	"slices"
	"strings"

	"forebear/api"
	"forebear/check"
	"forebear/parse"
	"forebear/store"
)

// raw is a commit as the objects tell it.
type raw struct {
	id      api.ID
	parents []api.ID
	date    int64
	files   map[string]string
}

// past is the commits, the refs and the tags of a store. What is asked of it is answered by the words of the chapters, without a layer and one commit at a time.
type past struct {
	commits    map[api.ID]raw
	refs, tags map[string]api.ID
	known      map[api.ID]set
}

type set map[api.ID]bool

func setOf(ids ...api.ID) set {
	x := set{}
	for _, id := range ids {
		x[id] = true
	}
	return x
}

func (x set) rising() []api.ID { return slices.Sorted(maps.Keys(x)) }

// any: is something so of one of a set?
func (x set) any(so func(api.ID) bool) bool {
	for id := range x {
		if so(id) {
			return true
		}
	}
	return false
}

func pastOf(s *store.Store) *past {
	h := &past{commits: map[api.ID]raw{}, refs: map[string]api.ID{}, tags: map[string]api.ID{}, known: map[api.ID]set{}}
	for _, id := range s.Commits() {
		c, _ := s.Get(id)
		files := map[string]string{}
		entries, _ := s.Files(c.Tree)
		for _, entry := range entries {
			text, _ := s.Data(entry.Blob)
			files[entry.Path] = string(text)
		}
		h.commits[id] = raw{id: id, parents: c.Parents, date: c.Date, files: files}
	}
	for _, ref := range s.Refs() {
		h.refs[ref.Name] = ref.ID
	}
	for _, tag := range s.Tags() {
		h.tags[tag.Name] = tag.ID
	}
	return h
}

// from is the commits from one.
func (h *past) from(id api.ID) set {
	if known, there := h.known[id]; there {
		return known
	}
	x := setOf(id)
	for _, parent := range h.commits[id].parents {
		maps.Copy(x, h.from(parent))
	}
	h.known[id] = x
	return x
}

func (h *past) isFrom(a, b api.ID) bool { return h.from(b)[a] }

// those is the commits of which something is so.
func (h *past) those(so func(api.ID) bool) set {
	x := set{}
	for id := range h.commits {
		if so(id) {
			x[id] = true
		}
	}
	return x
}

// between is reach.Range: from one of the tips, and from none of nots.
func (h *past) between(tips, nots []api.ID) set {
	return h.those(func(c api.ID) bool {
		from := func(id api.ID) bool { return h.isFrom(c, id) }
		return slices.ContainsFunc(tips, from) && !slices.ContainsFunc(nots, from)
	})
}

// ahead is the one of some commits that wait that a walk tells first.
func (h *past) ahead(waits set) api.ID {
	return slices.MinFunc(waits.rising(), func(a, b api.ID) int { return int(h.commits[b].date - h.commits[a].date) })
}

// walk: chapter 16.
func (h *past) walk(order string, tips, nots []api.ID) []api.ID {
	in := h.between(tips, nots)
	var list []api.ID
	told, waits := set{}, set{}
	for _, tip := range tips {
		if in[tip] {
			waits[tip] = true
		}
	}
	for {
		if order == "topo" {
			waits = h.those(func(c api.ID) bool {
				isKid := func(id api.ID) bool { return slices.Contains(h.commits[id].parents, c) }
				return in[c] && !told[c] && !in.any(func(id api.ID) bool { return isKid(id) && !told[id] })
			})
		}
		if len(waits) == 0 {
			return list
		}
		next := h.ahead(waits)
		delete(waits, next)
		told[next] = true
		list = append(list, next)
		for _, parent := range h.commits[next].parents {
			if in[parent] && !told[parent] {
				waits[parent] = true
			}
		}
	}
}

func under(p, dir string) bool { return p == dir || strings.HasPrefix(p, dir+"/") }

// has: has the path set of these paths a path?
func has(paths []string, p string) bool {
	return len(paths) == 0 || slices.ContainsFunc(paths, func(dir string) bool { return under(p, dir) })
}

// same: is a commit the same as its k-th parent within the path set of these paths?
func (h *past) same(id api.ID, k int, paths []string) bool {
	var was map[string]string
	if parents := h.commits[id].parents; k < len(parents) {
		was = h.commits[parents[k]].files
	}
	within := func(files map[string]string) map[string]string {
		some := map[string]string{}
		for p, text := range files {
			if has(paths, p) {
				some[p] = text
			}
		}
		return some
	}
	return maps.Equal(within(was), within(h.commits[id].files))
}

// touching: chapter 17.
func (h *past) touching(paths []string, tips []api.ID) []api.ID {
	return slices.DeleteFunc(h.walk("date", tips, nil), func(id api.ID) bool { return h.same(id, 0, paths) })
}

// simplified: chapter 18, by the lines of the console.
func (h *past) simplified(mode string, paths []string, tips, nots []api.ID) []string {
	in := h.between(tips, nots)
	if mode == "ancestry" {
		for id := range in {
			if !slices.ContainsFunc(nots, func(not api.ID) bool { return h.isFrom(not, id) }) {
				delete(in, id)
			}
		}
	}
	places := func(id api.ID) (list []int) {
		for k := range max(1, len(h.commits[id].parents)) {
			if h.same(id, k, paths) {
				list = append(list, k)
			}
		}
		return list
	}
	edges := func(id api.ID) []api.ID {
		parents := h.commits[id].parents
		if same := places(id); mode == "default" && len(same) > 0 && len(parents) > 0 {
			parents = parents[same[0] : same[0]+1]
		}
		return slices.DeleteFunc(slices.Clone(parents), func(id api.ID) bool { return !in[id] })
	}
	visited := in
	if mode == "default" {
		visited = set{}
		var visit func(id api.ID)
		visit = func(id api.ID) {
			if in[id] && !visited[id] {
				visited[id] = true
				for _, to := range edges(id) {
					visit(to)
				}
			}
		}
		for _, tip := range tips {
			visit(tip)
		}
	}
	kept := func(id api.ID) bool {
		return len(places(id)) == 0 || mode == "merges" && len(h.commits[id].parents) >= 2
	}
	var first func(ids []api.ID) []api.ID
	first = func(ids []api.ID) (list []api.ID) {
		for _, id := range ids {
			more := []api.ID{id}
			if !kept(id) {
				more = first(edges(id))
			}
			for _, id := range more {
				if !slices.Contains(list, id) {
					list = append(list, id)
				}
			}
		}
		return list
	}
	var parts []string
	for _, id := range visited.rising() {
		if kept(id) {
			parts = append(parts, hex(id)+"<"+strings.Join(hexOf(first(edges(id))), ","))
		}
	}
	return parts
}

func hex(id api.ID) string { return fmt.Sprintf("%016x", uint64(id)) }

func hexOf(ids []api.ID) []string {
	var list []string
	for _, id := range ids {
		list = append(list, hex(id))
	}
	return list
}

// cutLines: chapter 4.
func cutLines(s string) []string {
	list := strings.SplitAfter(s, "\n")
	if list[len(list)-1] == "" {
		list = list[:len(list)-1]
	}
	return list
}

// paired tells of each line of b that is paired which line of a it is: chapter 5.
func paired(a, b []string) map[int]int {
	pairs := map[int]int{}
	if len(a) > 256 || len(b) > 256 {
		return pairs
	}
	longest := make([][]int, len(a)+1)
	for i := range longest {
		longest[i] = make([]int, len(b)+1)
	}
	for i := len(a) - 1; i >= 0; i-- {
		for j := len(b) - 1; j >= 0; j-- {
			longest[i][j] = max(longest[i+1][j], longest[i][j+1])
			if a[i] == b[j] {
				longest[i][j] = max(longest[i][j], 1+longest[i+1][j+1])
			}
		}
	}
	for i, j := 0, 0; i < len(a) && j < len(b); {
		switch {
		case a[i] == b[j]:
			pairs[j] = i
			i, j = i+1, j+1
		case longest[i+1][j] >= longest[i][j+1]:
			i++
		default:
			j++
		}
	}
	return pairs
}

// origin: chapter 10.
func origin(was, now map[string]string, p string) (string, bool) {
	if _, there := was[p]; there {
		return p, true
	}
	taken := map[string]bool{}
	for _, to := range slices.Sorted(maps.Keys(now)) {
		if _, there := was[to]; there {
			continue
		}
		for _, from := range slices.Sorted(maps.Keys(was)) {
			if _, stays := now[from]; !stays && !taken[from] && was[from] == now[to] {
				taken[from] = true
				if to == p {
					return from, true
				}
				break
			}
		}
	}
	return "", false
}

// spot is a line of a file of a commit.
type spot struct {
	id   api.ID
	path string
	line int
}

// comesFrom: chapter 19, one step at a time.
func (h *past) comesFrom(s spot) spot {
	c := h.commits[s.id]
	for _, parent := range c.parents {
		was := h.commits[parent].files
		q, there := origin(was, c.files, s.path)
		if !there {
			continue
		}
		if line, is := paired(cutLines(was[q]), cutLines(c.files[s.path]))[s.line]; is {
			return h.comesFrom(spot{parent, q, line})
		}
	}
	return s
}

// blamed tells the parts of a file, or why there are none, as the console does.
func (h *past) blamed(id api.ID, p string) ([]string, api.Errno) {
	text, there := h.commits[id].files[p]
	if !there {
		return nil, api.ErrMissing
	}
	lines := cutLines(text)
	if len(lines) > 256 {
		return nil, api.ErrLong
	}
	var parts []string
	for from := 0; from < len(lines); {
		first := h.comesFrom(spot{id, p, from})
		next := first
		to := from
		for to+1 < len(lines) {
			next.line++
			if h.comesFrom(spot{id, p, to + 1}) != next {
				break
			}
			to++
		}
		parts = append(parts, fmt.Sprintf("%d-%d:%s:%s:%d", from, to, hex(first.id), first.path, first.line))
		from = to + 1
	}
	return parts, api.OK
}

// described: chapter 21.
func (h *past) described(id api.ID) string {
	best, least := "", math.MaxInt
	var date int64
	for _, name := range slices.Sorted(maps.Keys(h.tags)) {
		at := h.tags[name]
		if !h.isFrom(at, id) {
			continue
		}
		count := len(h.between([]api.ID{id}, []api.ID{at}))
		if count < least || count == least && h.commits[at].date > date {
			best, least, date = name, count, h.commits[at].date
		}
	}
	switch {
	case best == "":
		return hex(id)
	case least == 0:
		return best
	}
	return fmt.Sprintf("%s-%d-%s", best, least, hex(id))
}

// said is an answer of a bisection: 1 good, 2 bad, 3 skip.
type said struct {
	says byte
	id   api.ID
}

// next: chapter 20, of the answers that were accepted.
func (h *past) next(answers []said) string {
	var bad api.ID
	skipped, left := set{}, set{}
	for _, a := range answers {
		if a.says == 2 {
			bad = a.id
			left = maps.Clone(h.from(bad))
		}
		if a.says == 3 {
			skipped[a.id] = true
		}
	}
	for _, a := range answers {
		if a.says == 1 {
			for id := range h.from(a.id) {
				delete(left, id)
			}
		}
	}
	ids := left.rising()
	switch len(ids) {
	case 0:
		return "waiting"
	case 1:
		return "found " + hex(ids[0])
	}
	most, offer := -1, api.ID(0)
	for _, id := range ids {
		w := 0
		for _, other := range ids {
			if h.isFrom(other, id) {
				w++
			}
		}
		if weight := min(w, len(ids)-w); id != bad && !skipped[id] && weight > most {
			most, offer = weight, id
		}
	}
	if most < 0 {
		return "stuck " + strings.Join(hexOf(ids), " ")
	}
	return "offer " + hex(offer)
}

// isPath: is it 1 to 6 names of 1 to 16 bytes, with a slash between each two?
var isPath = regexp.MustCompile(`^[a-z0-9_.]{1,16}(/[a-z0-9_.]{1,16}){0,5}$`).MatchString

var isName = regexp.MustCompile(`^[a-z0-9_.]{1,16}$`).MatchString

// revisions: chapter 25.
func (h *past) revisions(s string) (set, api.Errno) {
	n, _, e := parse.Parse(s)
	if e != api.OK {
		return nil, e
	}
	t, _, e := check.Check(n)
	if e != api.OK {
		return nil, e
	}
	if t != check.Set {
		return nil, api.ErrType
	}
	if faults := h.faultsOf(n); len(faults) > 0 {
		return nil, faults[0]
	}
	return h.setOf(n), api.OK
}

// named is the commit that a node names, and whether it is there; other nodes name nothing that could be missing.
func (h *past) named(n parse.Node) (api.ID, bool) {
	there := true
	id := n.ID
	switch {
	case n.Op == parse.OpHash:
		_, there = h.commits[n.ID]
	case n.Op == parse.OpName:
		if id, there = h.refs[n.Text]; !there {
			id, there = h.tags[n.Text]
		}
	case n.Op == parse.OpCall && n.Text == "ref":
		id, there = h.refs[n.Kids[0].Text]
	case n.Op == parse.OpCall && n.Text == "tag":
		id, there = h.tags[n.Kids[0].Text]
	}
	return id, there
}

// faultsOf are all faults of a node whose types are right, in the order in which they are met.
func (h *past) faultsOf(n parse.Node) []api.Errno {
	var faults []api.Errno
	for _, kid := range n.Kids {
		faults = append(faults, h.faultsOf(kid)...)
	}
	if n.Op == parse.OpCall && n.Text == "touching" && !isPath(n.Kids[1].Text) {
		faults = append(faults, api.ErrName)
	}
	if _, there := h.named(n); !there {
		faults = append(faults, api.ErrMissing)
	}
	return faults
}

// setOf is what a node without a fault comes to, row by row of the chapter's table.
func (h *past) setOf(n parse.Node) set {
	var sets []set
	for _, kid := range n.Kids {
		// What is no set has none.
		if t, _, _ := check.Check(kid); t == check.Set {
			sets = append(sets, h.setOf(kid))
		}
	}
	var x, y set
	if len(sets) > 0 {
		x, y = sets[0], sets[len(sets)-1]
	}
	if n.Op == parse.OpCall {
		return h.call(n, x, sets)
	}
	return h.those(func(c api.ID) bool {
		cFrom := func(id api.ID) bool { return h.isFrom(c, id) }
		fromC := func(id api.ID) bool { return h.isFrom(id, c) }
		switch n.Op {
		case parse.OpOr:
			return x[c] || y[c]
		case parse.OpMinus:
			return x[c] && !y[c]
		case parse.OpAnd:
			return x[c] && y[c]
		case parse.OpNot:
			return !x[c]
		case parse.OpRange:
			return y.any(cFrom) && !x.any(cFrom)
		case parse.OpBetween:
			return y.any(cFrom) && x.any(fromC)
		case parse.OpUp:
			return x.any(func(id api.ID) bool {
				parents := h.commits[id].parents
				if n.Num == 0 {
					return slices.Contains(parents, c)
				}
				return n.Num <= len(parents) && parents[n.Num-1] == c
			})
		}
		id, _ := h.named(n)
		return c == id
	})
}

// number is what a number, or a call of count, comes to.
func (h *past) number(n parse.Node) int {
	if n.Op == parse.OpNum {
		return n.Num
	}
	return len(h.setOf(n.Kids[0]))
}

func (h *past) call(n parse.Node, x set, sets []set) set {
	number := 0
	if last := len(n.Kids) - 1; last == 1 && n.Text != "touching" && len(sets) == 1 {
		number = h.number(n.Kids[1])
	}
	isKid := func(a, b api.ID) bool { return slices.Contains(h.commits[a].parents, b) }
	apart := func(a, b api.ID) bool { return a != b && h.isFrom(a, b) }
	commonOf := h.those(func(c api.ID) bool {
		return len(x) > 0 && !x.any(func(id api.ID) bool { return !h.isFrom(c, id) })
	})
	if n.Text == "ancestors" && len(n.Kids) == 2 {
		for range min(number, len(h.commits)) {
			was := x
			x = h.those(func(c api.ID) bool { return was[c] || was.any(func(id api.ID) bool { return isKid(id, c) }) })
		}
		return x
	}
	return h.those(func(c api.ID) bool {
		in := 0
		for _, x := range sets {
			if x[c] {
				in++
			}
		}
		named, _ := h.named(n)
		switch n.Text {
		case "all":
			return true
		case "refs":
			return slices.Contains(slices.Collect(maps.Values(h.refs)), c)
		case "tags":
			return slices.Contains(slices.Collect(maps.Values(h.tags)), c)
		case "ref", "tag":
			return c == named
		case "ancestors":
			return x.any(func(id api.ID) bool { return h.isFrom(c, id) })
		case "descendants":
			return x.any(func(id api.ID) bool { return h.isFrom(id, c) })
		case "parents":
			return x.any(func(id api.ID) bool { return isKid(id, c) })
		case "children":
			return x.any(func(id api.ID) bool { return isKid(c, id) })
		case "heads":
			return x[c] && !x.any(func(id api.ID) bool { return apart(c, id) })
		case "roots":
			return x[c] && !x.any(func(id api.ID) bool { return apart(id, c) })
		case "merges":
			return x[c] && len(h.commits[c].parents) > 1
		case "bases":
			return commonOf[c] && !commonOf.any(func(id api.ID) bool { return apart(c, id) })
		case "touching":
			return x[c] && !h.same(c, 0, []string{n.Kids[1].Text})
		case "latest":
			before := h.those(func(id api.ID) bool {
				a, b := h.commits[id].date, h.commits[c].date
				return x[id] && (a > b || a == b && id < c)
			})
			return x[c] && len(before) < number
		case "before":
			return x[c] && h.commits[c].date < int64(number)
		case "since":
			return x[c] && h.commits[c].date >= int64(number)
		case "union":
			return in > 0
		case "common":
			return in == len(sets)
		}
		return false
	})
}
