package cmd

import (
	"maps"
	"slices"
	"strings"

	"forebear/api"
	"forebear/graph"
	"forebear/path"
	"forebear/store"
	"forebear/sum"
)

// job is a command while it is done: the console, and its graph as it is now.
type job struct {
	*Console
	*graph.Graph
	// The first error of the words that were read.
	fault api.Errno
}

// run is done with as many words as the command takes.
func (j *job) run(command string, words []string) (string, api.Errno) {
	switch command {
	case "commit":
		return j.commit(words)
	case "log":
		return j.log(words)
	case "is":
		return j.is(words)
	case "touching":
		return j.touching(words)
	case "simplify":
		return j.simplify(words)
	case "blame":
		return j.blame(words)
	case "describe":
		return j.describe(words)
	case "rev":
		return j.revisions(words)
	case "next":
		return j.next(), api.OK
	case "stat":
		return j.stat(), api.OK
	}
	return "ok", j.act(command, words)
}

// act is done with the commands that tell nothing but an error.
func (j *job) act(command string, words []string) api.Errno {
	switch command {
	case "file":
		return j.file(words[0], words[1:])
	case "drop":
		return j.drop(words[0])
	case "move":
		return j.move(words[0], words[1])
	case "checkout":
		return j.withRev(words[0], j.checkout)
	case "ref":
		return j.withRev(words[1], func(id api.ID) api.Errno { return j.SetRef(words[0], id) })
	case "tag":
		return j.withRev(words[1], func(id api.ID) api.Errno { return j.SetTag(words[0], id) })
	case "unref":
		return j.DropRef(words[0])
	case "index":
		return j.index(words)
	case "merge":
		return j.withNumbers(words, func(n []int) api.Errno { return j.chain.Merge(n[0]) })
	case "unindex":
		return j.withNumbers(words, func(n []int) api.Errno { return j.chain.Drop(n[0]) })
	case "cut":
		return j.withNumbers(words, func(n []int) api.Errno { return j.disk.Cut(n[0], n[1]) })
	case "restart":
		return j.restart()
	case "spoil":
		return j.withNumbers(words[1:], func(n []int) api.Errno { return j.spoil(words[0], n[0], byte(n[1])) })
	case "good":
		return j.withRev(words[0], j.hunt.Good)
	case "bad":
		return j.withRev(words[0], j.hunt.Bad)
	case "skip":
		return j.withRev(words[0], func(id api.ID) api.Errno { return j.hunt.Skip(id) })
	}
	return j.hunt.Clear()
}

// file: words become the lines of a file of the work tree.
func (j *job) file(p string, words []string) api.Errno {
	if e := path.Check(p); e != api.OK {
		return e
	}
	var text []byte
	for _, word := range words {
		text = append(append(text, word...), '\n')
	}
	j.lay(p, text)
	return api.OK
}

// lay keeps a copy of the path, which may be a piece of a long text that would be kept with it.
func (j *job) lay(p string, text []byte) { j.work[strings.Clone(p)] = text }

func (j *job) drop(p string) api.Errno {
	if _, there := j.work[p]; !there {
		return api.ErrMissing
	}
	delete(j.work, p)
	return api.OK
}

func (j *job) move(from, to string) api.Errno {
	text, there := j.work[from]
	if !there {
		return api.ErrMissing
	}
	if e := path.Check(to); e != api.OK {
		return e
	}
	// In this order, as a file may be moved to itself.
	delete(j.work, from)
	j.lay(to, text)
	return api.OK
}

// commit puts the work tree, and a commit of it, and sets a ref to that.
func (j *job) commit(words []string) (string, api.Errno) {
	name := words[0]
	date := j.number(words[1])
	parents := j.revs(words[2:])
	if j.fault != api.OK {
		return "", j.fault
	}
	if e := path.Name(name); e != api.OK {
		return "", e
	}
	tree, e := j.put()
	if e != api.OK {
		return "", e
	}
	id, e := j.Commit(api.Commit{Tree: tree, Parents: parents, Date: int64(date), Note: name})
	if e != api.OK {
		return "", e
	}
	return sum.Hex(id), j.SetRef(name, id)
}

// put makes the files of the work tree be objects: blobs, and their tree.
func (j *job) put() (api.ID, api.Errno) {
	var entries []api.Entry
	for _, p := range slices.Sorted(maps.Keys(j.work)) {
		blob, e := j.Blob(j.work[p])
		if e != api.OK {
			return 0, e
		}
		entries = append(entries, api.Entry{Path: p, Blob: blob})
	}
	return j.Tree(entries...)
}

// checkout makes the work tree be the files of a commit.
func (j *job) checkout(id api.ID) api.Errno {
	clear(j.work)
	// They are there, and so are their blobs.
	entries, _ := j.Content(id)
	for _, entry := range entries {
		text, _ := j.Data(entry.Blob)
		j.lay(entry.Path, text)
	}
	return api.OK
}

func (j *job) index(words []string) api.Errno {
	tips := j.revs(words)
	if j.fault != api.OK {
		return j.fault
	}
	return j.chain.Write(tips...)
}

// restart leaves all as it was opened, but the disk, if it can't be opened anew.
func (j *job) restart() api.Errno {
	j.disk.Restart()
	anew, e := open(j.disk)
	if e != api.OK {
		return e
	}
	j.opened = anew
	return api.OK
}

func (j *job) spoil(file string, at int, mask byte) api.Errno {
	if file == store.File {
		return api.ErrName
	}
	if e := j.disk.Spoil(file, at, mask); e != api.OK {
		return e
	}
	return j.restart()
}
