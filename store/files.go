package store

import (
	"slices"

	"tithebarn/api"
	"tithebarn/disk"
	"tithebarn/journal"
	"tithebarn/manifest"
)

// The names of the files of a table are current, or one of these letters and a
// number.
const (
	current        = "current"
	manifestLetter = "m"
	runLetter      = "r"
	segmentLetter  = "w"
	spareLetter    = "c" // of the file that is going to be current
)

// files is the files of a table, on their disk.
type files struct {
	disk     *disk.Disk
	newest   int // the newest number
	manifest string
	older    []string // the segments but for the last one
	segment  string   // the last segment
}

// segments returns the names of all segments, the oldest one first.
func (f *files) segments() []string {
	return append(slices.Clone(f.older), f.segment)
}

// inOrder executes calls one after the other, up to the first one that fails,
// and returns its error.
func inOrder(calls ...func() api.Errno) api.Errno {
	for _, call := range calls {
		if e := call(); e != api.OK {
			return e
		}
	}
	return api.OK
}

// each returns the call for each of the names, one after the other.
func each(call func(name string) api.Errno, names ...string) func() api.Errno {
	return func() api.Errno {
		for _, name := range names {
			if e := call(name); e != api.OK {
				return e
			}
		}
		return api.OK
	}
}

// appending returns the call that appends text to a file.
func (f *files) appending(name, text string) func() api.Errno {
	return func() api.Errno { return f.disk.Append(name, text) }
}

// extending returns the calls that append text to a file, durably.
func (f *files) extending(name, text string) func() api.Errno {
	return func() api.Errno {
		return inOrder(f.appending(name, text), each(f.disk.Sync, name))
	}
}

// making returns the calls that make a file of the bytes text, which are
// durable then. (The name is not.)
func (f *files) making(name, text string) func() api.Errno {
	return func() api.Errno {
		return inOrder(each(f.disk.Create, name), f.extending(name, text))
	}
}

// writing returns the calls that make the files of the runs l.
func (f *files) writing(l []draft) func() api.Errno {
	return func() api.Errno {
		for _, r := range l {
			if e := inOrder(f.making(runName(r.Id), r.text)); e != api.OK {
				return e
			}
		}
		return api.OK
	}
}

// recording returns the calls that append the edit e, which is valid, to the
// manifest, durably.
func (f *files) recording(e api.Edit) func() api.Errno {
	text, _ := manifest.Write(e)
	return f.extending(f.manifest, text)
}

// renaming returns the call that gives the file a the name b.
func (f *files) renaming(a, b string) func() api.Errno {
	return func() api.Errno { return f.disk.Rename(a, b) }
}

// runName returns the name of the run with this id.
func runName(id int) string {
	return journal.Name(runLetter, id)
}

// runNames returns the names of the runs with these ids.
func runNames(ids []int) []string {
	var names []string
	for _, id := range ids {
		names = append(names, runName(id))
	}
	return names
}

// numbers returns, in ascending order, the numbers of those of names that
// consist of letter and a number.
func numbers(letter string, names []string) []int {
	var l []int
	for _, name := range names {
		if n, ok := journal.Number(letter, name); ok {
			l = append(l, n)
		}
	}
	slices.Sort(l)
	return l
}
