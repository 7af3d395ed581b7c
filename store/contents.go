package store

import (
	"cmp"
	"slices"

	"tithebarn/api"
	"tithebarn/kinds"
	"tithebarn/merge"
	"tithebarn/run"
	"tithebarn/skip"
	"tithebarn/zone"
)

// seed is that of the lists of deeds. No result depends on it.
const seed = 19

// contents is what the files of a table contain. All of it is in memory, so
// that the table can still be read after an error of the disk.
type contents struct {
	schema []api.Col
	state  api.State
	recent *skip.List // the deeds of the segments, newer than those of all runs
	runs   []stored   // those of the state's parts, the newest one first
}

// stored is a part with its run.
type stored struct {
	api.Part
	*run.Run
}

// newestFirst compares two runs. (The order of those of one level above 0 does
// not matter, since they have no key in common.)
func newestFirst(a, b stored) int {
	return cmp.Or(cmp.Compare(a.Level, b.Level), cmp.Compare(b.Id, a.Id))
}

// has reports whether there are all columns cols.
func (c *contents) has(cols ...int) bool {
	for _, col := range cols {
		if col < 0 || col >= len(c.schema) {
			return false
		}
	}
	return true
}

// find returns the newest deed of the key k, and true; or false if there is
// none.
func (c *contents) find(k api.Value) (api.Deed, bool) {
	if d, ok := c.recent.Get(k); ok {
		return d, true
	}
	for _, s := range c.runs {
		if d, ok := s.Get(k); ok {
			return d, true
		}
	}
	return api.Deed{}, false
}

// rows returns, in order, the rows whose keys are in the range r and which
// satisfy a, whose column there is.
func (c *contents) rows(r api.Range, a api.Ask) []api.Row {
	lists := [][]api.Deed{c.recentIn(r)}
	for _, s := range c.runs {
		lists = append(lists, c.decisive(s, r, a))
	}
	// Each list is sorted, so there is no error.
	l, _ := merge.Newest(lists)
	var rows []api.Row
	for _, d := range merge.Live(l) {
		if zone.Holds(a, d.Row[a.Col]) {
			rows = append(rows, d.Row)
		}
	}
	return rows
}

// recentIn returns the deeds of the segments whose keys are in the range r, in
// order.
func (c *contents) recentIn(r api.Range) []api.Deed {
	deeds := c.recent.All()
	if r.From {
		deeds = c.recent.From(r.Lo)
	}
	var l []api.Deed
	for d := range deeds {
		// None comes before the range, so this one and all others come after it.
		if !kinds.In(r, d.Row[0]) {
			break
		}
		l = append(l, d)
	}
	return l
}

// decisive returns, in order, those deeds of the run s that may decide which
// rows are in the range r and satisfy a.
func (c *contents) decisive(s stored, r api.Range, a api.Ask) []api.Deed {
	if !c.isOldest(s) {
		// A deed that does not satisfy a matters too: it replaces older ones.
		return slices.Collect(s.Range(r))
	}
	rows, _ := s.Matches(r, a)
	var l []api.Deed
	for _, row := range rows {
		l = append(l, api.Deed{Row: row})
	}
	return l
}

// isOldest reports whether no run has deeds that are older than those of s, of
// the same keys.
func (c *contents) isOldest(s stored) bool {
	last := c.runs[len(c.runs)-1]
	return s.Id == last.Id || s.Level == last.Level && s.Level > 0
}
