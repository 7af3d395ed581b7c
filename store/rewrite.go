package store

import (
	"slices"

	"tithebarn/api"
	"tithebarn/levels"
	"tithebarn/manifest"
	"tithebarn/merge"
	"tithebarn/run"
)

// merged returns the deeds that remain of the runs that the plan p names.
func (c *contents) merged(p levels.Plan) []api.Deed {
	var lists [][]api.Deed
	for _, id := range p.Ids {
		i := slices.IndexFunc(c.runs, func(s stored) bool { return s.Id == id })
		lists = append(lists, slices.Collect(c.runs[i].Range(api.Range{})))
	}
	// Each list is sorted, so there is no error.
	l, _ := merge.Newest(lists)
	if p.Bottom {
		return merge.Live(l)
	}
	return l
}

// draft is a run that is to be written, with its encoding.
type draft struct {
	stored
	text string
}

// drafts returns the runs of lists on the level, with the numbers that come
// next.
func (x *Store) drafts(lists [][]api.Deed, level int) []draft {
	var l []draft
	for i, deeds := range lists {
		// The deeds of a table fit its schema, and a thousand of them are never
		// too long for a run, so there is no error.
		text, _ := run.Write(x.schema, deeds)
		loaded, _ := run.Load(x.schema, text)
		lo, hi := loaded.Bounds()
		p := api.Part{Id: x.newest + 1 + i, Level: level, Lo: lo, Hi: hi}
		l = append(l, draft{stored{p, loaded}, text})
	}
	return l
}

// partsOf returns the parts of the runs l.
func partsOf(l []draft) []api.Part {
	var parts []api.Part
	for _, r := range l {
		parts = append(parts, r.Part)
	}
	return parts
}

// edited returns what the edit e, which adds the runs l, makes of the contents.
func (c *contents) edited(e api.Edit, l []draft) contents {
	next := *c
	// Only parts that there are are dropped, and all numbers are new ones, so
	// the edit can be applied.
	next.state, _ = manifest.Apply(c.state, e)
	next.runs = slices.DeleteFunc(slices.Clone(c.runs), func(s stored) bool {
		return slices.Contains(e.Drop, s.Id)
	})
	for _, r := range l {
		next.runs = append(next.runs, r.stored)
	}
	slices.SortFunc(next.runs, newestFirst)
	return next
}
