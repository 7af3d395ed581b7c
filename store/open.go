package store

import (
	"math"
	"slices"

	"tithebarn/api"
	"tithebarn/journal"
	"tithebarn/levels"
	"tithebarn/manifest"
	"tithebarn/run"
)

// load reads what the files of the disk contain. It returns false if they are
// inconsistent.
func (x *Store) load() bool {
	// Without a manifest there are no segments, whatever files there are.
	x.state.Floor = math.MaxInt
	if name, e := x.disk.Read(current); e == api.OK && !x.loadManifest(name) {
		return false
	}
	names := x.disk.Names()
	x.newest = x.state.Next - 1
	for _, letter := range []string{manifestLetter, runLetter, segmentLetter} {
		for _, n := range numbers(letter, names) {
			x.newest = max(x.newest, n)
		}
	}
	return x.loadRuns() && x.loadSegments(numbers(segmentLetter, names))
}

// loadManifest reads the manifest with this name. It returns false if there is
// none.
func (x *Store) loadManifest(name string) bool {
	if _, ok := journal.Number(manifestLetter, name); !ok {
		return false
	}
	text, e := x.disk.Read(name)
	if e != api.OK {
		return false
	}
	x.state, e = manifest.Read(text)
	return e == api.OK
}

// loadRuns reads the runs of the parts. It returns false if they are not those
// that the parts describe, or if the levels are not disjoint.
func (x *Store) loadRuns() bool {
	for _, p := range x.state.Parts {
		text, e := x.disk.Read(runName(p.Id))
		if e != api.OK {
			return false
		}
		r, e := run.Load(x.schema, text)
		if e != api.OK {
			return false
		}
		if lo, hi := r.Bounds(); lo != p.Lo || hi != p.Hi {
			return false
		}
		x.runs = append(x.runs, stored{p, r})
	}
	slices.SortFunc(x.runs, newestFirst)
	return levels.Disjoint(x.state.Parts)
}

// loadSegments reads the segments, which are those files with the numbers l,
// in ascending order, that are not below the Floor. It returns false if one is
// corrupt.
func (x *Store) loadSegments(l []int) bool {
	var texts []string
	for _, n := range l {
		if n >= x.state.Floor {
			name := journal.Name(segmentLetter, n)
			text, _ := x.disk.Read(name)
			x.older = append(x.older, name)
			texts = append(texts, text)
		}
	}
	deeds, e := journal.Replay(x.schema, texts)
	for _, d := range deeds {
		x.recent.Put(d)
	}
	return e == api.OK
}

// begin begins a new segment and a new manifest, and removes the files that
// are not those of the table. It returns the first error of the disk.
func (x *Store) begin() api.Errno {
	d, first := x.disk, x.newest+1
	x.newest = first + 1
	x.segment = journal.Name(segmentLetter, first)
	x.manifest = journal.Name(manifestLetter, x.newest)
	// A Floor above the new segment, which is behind all others, would hide it
	// when the table is opened again.
	x.state.Floor = min(x.state.Floor, first)
	names := d.Names()
	spare := unused(names)
	return inOrder(
		// Deeds of the new segment must not outlive older ones.
		each(d.Sync, x.older...),
		each(d.Create, x.segment, x.manifest),
		each(d.Sync, x.segment),
		x.recording(manifest.Snapshot(x.state)),
		x.making(spare, x.manifest),
		d.SyncDir,
		// The name changes at once, so current is never without its bytes.
		x.renaming(spare, current),
		each(d.Remove, x.foreign(names)...),
		d.SyncDir,
	)
}

// unused returns a name that is none of names, which are sorted.
func unused(names []string) string {
	for n := 0; ; n++ {
		name := journal.Name(spareLetter, n)
		if _, there := slices.BinarySearch(names, name); !there {
			return name
		}
	}
}

// foreign returns those of names that no file of the table has.
func (x *Store) foreign(names []string) []string {
	own := map[string]struct{}{current: {}, x.manifest: {}}
	for _, name := range x.segments() {
		own[name] = struct{}{}
	}
	for _, p := range x.state.Parts {
		own[runName(p.Id)] = struct{}{}
	}
	var l []string
	for _, name := range names {
		if _, is := own[name]; !is {
			l = append(l, name)
		}
	}
	return l
}
