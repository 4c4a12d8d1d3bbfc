package layout

import (
	"pinball/api"
	"pinball/source"
)

// Compile returns the table of a text, or the first error and its offset.
func Compile(s string) (api.Table, api.Errno, int) {
	l, e, at := source.Parse(s)
	if e != api.OK {
		return api.Table{}, e, at
	}
	var t api.Table
	found := false
	for _, x := range l {
		if found && x.Word == "table" {
			return api.Table{}, api.ErrDuplicate, x.At
		}
		found = found || x.Word == "table"
		if !fill(added(&t, x.Word), x) {
			return api.Table{}, api.ErrMissing, x.At
		}
		if n, ok := source.Get(x, "trough"); ok {
			t.Trough = trough(n[0], t.Balls)
		}
	}
	if !found {
		return api.Table{}, api.ErrMissing, len(s)
	}
	if e := Check(t); e != api.OK {
		return api.Table{}, e, 0
	}
	return t, api.OK, 0
}

// added adds an element to t, unless the word is that of the table itself, and returns the part that is to be filled.
func added(t *api.Table, word string) part {
	switch word {
	case "wall":
		return last(&t.Walls, api.Wall{Kind: api.WallPlain}, wallPart)
	case "gate":
		return last(&t.Walls, api.Wall{Kind: api.WallGate}, wallPart)
	case "target":
		return last(&t.Walls, api.Wall{Kind: api.WallTarget}, wallPart)
	case "sling":
		return last(&t.Walls, api.Wall{Kind: api.WallSling}, wallPart)
	case "arc":
		return last(&t.Arcs, api.Arc{}, arcPart)
	case "post":
		return last(&t.Posts, api.Post{}, postPart)
	case "flipper":
		return last(&t.Flippers, api.Flipper{}, flipperPart)
	case "zone":
		return last(&t.Zones, api.Zone{}, zonePart)
	case "saucer":
		return last(&t.Saucers, api.Saucer{}, saucerPart)
	case "lane":
		return last(&t.Lanes, api.Lane{}, lanePart)
	case "ramp":
		return last(&t.Ramps, api.Ramp{}, rampPart)
	case "drain":
		return last(&t.Drains, api.Drain{}, drainPart)
	case "launcher":
		return last(&t.Launchers, api.Launcher{}, launcherPart)
	}
	return tablePart(t)
}

// last appends x to a list and returns its part, which is to be used before the list grows again.
func last[E any](l *[]E, x E, partOf func(*E) part) part {
	*l = append(*l, x)
	return partOf(&(*l)[len(*l)-1])
}

// fill sets the name and the fields of p to what x says, and reports whether no key is missing that must be there.
func fill(p part, x source.Item) bool {
	*p.name = x.Name
	for _, f := range p.fields {
		values, ok := source.Get(x, f.key)
		if f.flag != nil {
			*f.flag = ok
			continue
		}
		if !ok {
			values, ok = standard(f.key)
		}
		if !ok {
			return false
		}
		for i, n := range values {
			*f.numbers[i] = n
		}
	}
	return true
}

// standard returns the numbers of a key that is missing, and whether it may be missing.
func standard(key string) ([]int, bool) {
	switch key {
	case "level", "grip", "kick", "min":
		return []int{0}, true
	case "rest":
		return []int{8}, true
	case "coil", "switch":
		return []int{-1}, true
	case "up":
		return []int{4}, true
	case "down":
		return []int{2}, true
	case "max":
		return []int{16}, true
	case "limit":
		return []int{mostLimit}, true
	case "balls":
		return []int{1}, true
	case "gravity", "drag":
		return []int{0, 0}, true
	}
	return nil, false
}

// trough returns the switches of a trough: first and those behind it, one for each ball, or no switch for any.
func trough(first, balls int) []int {
	step := 1
	if first == -1 {
		step = 0
	}
	var l []int
	for i := range min(balls, api.MaxBalls) { // Check permits no more, and a text may ask for very many
		l = append(l, first+step*i)
	}
	return l
}
