package layout

import (
	"cmp"

	"pinball/api"
	"pinball/scan"
	"pinball/vector"
)

// Limits that package api has no names for.
const (
	mostRest  = 15
	mostDrag  = 1000
	mostShift = 14
	mostTurn  = 64      // of the accelerations and the speed of a flipper
	mostSweep = 1 << 21 // of the speed of a flipper times its length
	mostLimit = 1 << 20
)

// Check returns OK if t is a valid table, otherwise the first error. Each tick asks for this several times,
// so it looks at the fields themselves and not at lists of them.
func Check(t api.Table) api.Errno {
	switch {
	case !limited(t):
		return api.ErrLimit
	case !ranged(t):
		return api.ErrRange
	}
	if e := fault(t); e != api.OK {
		return e
	}
	if crowded(discs(t)) {
		return api.ErrOverlap
	}
	return api.OK
}

// limited reports whether there are as many balls as permitted, and no list is too long.
func limited(t api.Table) bool {
	return within(0, api.MaxBalls, t.Balls) && len(t.Trough) <= t.Balls &&
		len(t.Walls) <= api.MaxWalls && len(t.Arcs) <= api.MaxArcs && len(t.Posts) <= api.MaxPosts &&
		len(t.Flippers) <= api.MaxFlippers && len(t.Zones) <= api.MaxZones && len(t.Saucers) <= api.MaxSaucers &&
		len(t.Lanes) <= api.MaxLanes && len(t.Ramps) <= api.MaxRamps && len(t.Drains) <= api.MaxDrains &&
		len(t.Launchers) <= api.MaxLaunchers
}

// ranged reports whether the numbers of the table itself are in their ranges.
func ranged(t api.Table) bool {
	return within(api.MinRadius, api.MaxRadius, t.Radius) && within(0, mostRest, t.Rest) && bounded(api.MaxHalf, t.Gravity) &&
		within(0, mostDrag, t.Drag) && within(0, mostShift, t.Shift) && within(-1, api.MaxSwitch, t.Trough...)
}

// fault returns the first error of the elements, each for itself but for its name.
func fault(t api.Table) api.Errno {
	names := map[string]bool{}
	return cmp.Or(
		faultIn(t.Walls, names, wallFacts),
		faultIn(t.Arcs, names, func(x *api.Arc) facts { return arcFacts(x, t.Radius) }),
		faultIn(t.Posts, names, postFacts),
		faultIn(t.Flippers, names, flipperFacts),
		faultIn(t.Zones, names, zoneFacts),
		faultIn(t.Saucers, names, func(x *api.Saucer) facts { return saucerFacts(x, t.Radius) }),
		faultIn(t.Lanes, names, laneFacts),
		faultIn(t.Ramps, names, rampFacts),
		faultIn(t.Drains, names, drainFacts),
		faultIn(t.Launchers, names, launcherFacts),
	)
}

// faultIn returns the first error of the elements of a list; names are those of all elements before them.
func faultIn[E any](l []E, names map[string]bool, look func(*E) facts) api.Errno {
	for i := range l {
		x := look(&l[i])
		switch {
		case !scan.Name(x.name):
			return api.ErrName
		case names[x.name]:
			return api.ErrDuplicate
		case !x.ranged:
			return api.ErrRange
		case !x.shaped:
			return api.ErrShape
		}
		names[x.name] = true
	}
	return api.OK
}

// disc is a place that no other one of the same kind and level may overlap.
type disc struct {
	kind, level int
	center      api.Vec
	size        int
}

// Kinds of discs.
const (
	saucerDisc = iota
	rampDisc
	launcherDisc
)

// discs returns the discs of t: saucers, ramps, and the balls that launchers put on the table.
func discs(t api.Table) []disc {
	var l []disc
	for _, x := range t.Saucers {
		l = append(l, disc{saucerDisc, x.Level, x.C, x.Size})
	}
	for _, x := range t.Ramps {
		l = append(l, disc{rampDisc, x.From, x.C, x.Size})
	}
	for _, x := range t.Launchers {
		l = append(l, disc{launcherDisc, x.Level, x.At, t.Radius})
	}
	return l
}

// crowded reports whether two discs of one kind and level overlap.
func crowded(l []disc) bool {
	for i, a := range l {
		for _, b := range l[:i] {
			d, near := vector.Sub(a.center, b.center), a.size+b.size
			if a.kind == b.kind && a.level == b.level && vector.Dot(d, d) < near*near {
				return true
			}
		}
	}
	return false
}
