package layout

import (
	"slices"
	"strings"

	"pinball/api"
)

// part is what a statement declares: the table itself or one of its elements. Its fields are read and changed
// through pointers, so that what a key stands for is written down once for all that is done with tables.
type part struct {
	element any     // a pointer to the element, or to the table
	word    string  // of its statement
	name    *string // "" of the table itself
	fields  []field // in the order of the keys of its word
}

// field is where a part keeps what stands behind a key: up to two numbers, or whether there is the key.
type field struct {
	key     string
	numbers [2]*int
	flag    *bool
}

// number is a field of one number.
func number(key string, n *int) field {
	return field{key: key, numbers: [2]*int{n}}
}

// pair is a field of two numbers.
func pair(key string, m, n *int) field {
	return field{key: key, numbers: [2]*int{m, n}}
}

// vec is a field of the components of a vector.
func vec(key string, v *api.Vec) field {
	return pair(key, &v.X, &v.Y)
}

// changed returns a copy of t in whose parts something is changed: in the table itself, then in its elements, list by list.
func changed(t api.Table, change func(part)) api.Table {
	change(tablePart(&t))
	t.Trough = slices.Clone(t.Trough)
	t.Walls = changedList(t.Walls, wallPart, change)
	t.Arcs = changedList(t.Arcs, arcPart, change)
	t.Posts = changedList(t.Posts, postPart, change)
	t.Flippers = changedList(t.Flippers, flipperPart, change)
	t.Zones = changedList(t.Zones, zonePart, change)
	t.Saucers = changedList(t.Saucers, saucerPart, change)
	t.Lanes = changedList(t.Lanes, lanePart, change)
	t.Ramps = changedList(t.Ramps, rampPart, change)
	t.Drains = changedList(t.Drains, drainPart, change)
	t.Launchers = changedList(t.Launchers, launcherPart, change)
	return t
}

// changedList returns a copy of a list in whose elements something is changed.
func changedList[E any](l []E, partOf func(*E) part, change func(part)) []E {
	l = slices.Clone(l)
	for i := range l {
		p := partOf(&l[i])
		*p.name = strings.Clone(*p.name)
		change(p)
	}
	return l
}

// tablePart is the table itself, without its trough, which is no field: how long it is depends on the number of balls.
func tablePart(t *api.Table) part {
	return part{t, "table", new(string), []field{
		number("radius", &t.Radius), number("balls", &t.Balls), vec("gravity", &t.Gravity), pair("drag", &t.Drag, &t.Shift), number("rest", &t.Rest),
	}}
}

func wallPart(x *api.Wall) part {
	return part{x, wallWord(x.Kind), &x.Name, []field{
		number("level", &x.Level), vec("from", &x.A), vec("to", &x.B), number("rest", &x.Rest), number("grip", &x.Grip),
		number("kick", &x.Kick), number("min", &x.Min), number("coil", &x.Coil), number("switch", &x.Switch),
	}}
}

func arcPart(x *api.Arc) part {
	return part{x, "arc", &x.Name, []field{
		number("level", &x.Level), vec("center", &x.C), vec("from", &x.S), vec("to", &x.E), number("rest", &x.Rest), number("grip", &x.Grip),
		number("min", &x.Min), number("switch", &x.Switch),
	}}
}

func postPart(x *api.Post) part {
	return part{x, "post", &x.Name, []field{
		number("level", &x.Level), vec("center", &x.C), number("size", &x.Size), number("rest", &x.Rest), number("grip", &x.Grip),
		number("kick", &x.Kick), number("min", &x.Min), number("coil", &x.Coil), number("switch", &x.Switch),
	}}
}

func flipperPart(x *api.Flipper) part {
	return part{x, "flipper", &x.Name, []field{
		number("level", &x.Level), vec("center", &x.P), number("length", &x.Length), {key: "mirror", flag: &x.Mirror}, pair("range", &x.Low, &x.High),
		number("up", &x.Up), number("down", &x.Down), number("max", &x.Max), number("rest", &x.Rest), number("grip", &x.Grip),
		number("coil", &x.Coil), number("switch", &x.Switch),
	}}
}

func zonePart(x *api.Zone) part {
	return part{x, "zone", &x.Name, []field{
		number("level", &x.Level), vec("from", &x.Lo), vec("to", &x.Hi), vec("half", &x.Half), number("coil", &x.Coil),
	}}
}

func saucerPart(x *api.Saucer) part {
	return part{x, "saucer", &x.Name, []field{
		number("level", &x.Level), vec("center", &x.C), number("size", &x.Size), number("limit", &x.Limit), vec("out", &x.Out),
		number("coil", &x.Coil), number("switch", &x.Switch),
	}}
}

func lanePart(x *api.Lane) part {
	return part{x, "lane", &x.Name, []field{
		number("level", &x.Level), vec("center", &x.C), number("size", &x.Size), number("switch", &x.Switch),
	}}
}

func rampPart(x *api.Ramp) part {
	return part{x, "ramp", &x.Name, []field{
		number("level", &x.From), number("into", &x.To), vec("center", &x.C), number("size", &x.Size), vec("dir", &x.Dir),
	}}
}

func drainPart(x *api.Drain) part {
	return part{x, "drain", &x.Name, []field{
		number("level", &x.Level), vec("center", &x.C), number("size", &x.Size),
	}}
}

func launcherPart(x *api.Launcher) part {
	return part{x, "launcher", &x.Name, []field{
		number("level", &x.Level), vec("center", &x.At), vec("out", &x.V), number("coil", &x.Coil),
	}}
}

// wallWord returns the word of the walls of a kind, "" if there is no such kind.
func wallWord(kind int) string {
	switch kind {
	case api.WallPlain:
		return "wall"
	case api.WallGate:
		return "gate"
	case api.WallTarget:
		return "target"
	case api.WallSling:
		return "sling"
	}
	return ""
}
