package choose

import (
	"slices"

	"paddock/api"
)

// ears are who was heard, and the latest start that was heard of: what was acknowledged ahead of that is known by whoever knows of it.
type ears struct {
	heard   [api.Osds]bool
	started uint32
}

// listened leaves out numbers that are no daemon's: they act nowhere.
func listened(heard []int, started uint32) ears {
	e := ears{started: started}
	for _, osd := range heard {
		if osd >= 0 && osd < api.Osds {
			e.heard[osd] = true
		}
	}
	return e
}

func (e ears) hears(osd int) bool { return e.heard[osd] }

func (e ears) misses(osd int) bool { return !e.heard[osd] }

// lacks: whatever was acknowledged in an interval all that acted in it have, so that one of them is enough.
func (e ears) lacks(x api.Interval) bool {
	return serves(x) && x.Since >= e.started && !slices.ContainsFunc(x.Acting, e.hears)
}

func serves(x api.Interval) bool { return len(x.Acting) >= api.MinSize }

// parted are the intervals that are over, and the last one. A group that isn't there has none: nobody acts for it.
func parted(l []api.Interval) (over []api.Interval, now api.Interval) {
	if len(l) == 0 {
		return nil, api.Interval{}
	}
	return l[:len(l)-1], l[len(l)-1]
}

// walked are those of l of which told holds.
func walked(l []api.Interval, told func(x api.Interval) bool) []api.Interval {
	var found []api.Interval
	for _, x := range l {
		if told(x) {
			found = append(found, x)
		}
	}
	return found
}
