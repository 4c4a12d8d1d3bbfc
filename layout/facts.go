package layout

import (
	"pinball/api"
	"pinball/vector"
)

// facts are what Check wants to know of an element.
type facts struct {
	name   string
	ranged bool // its fields are in their ranges
	shaped bool // its shape is permitted; says nothing if they are not
}

func wallFacts(x *api.Wall) facts {
	ranged := within(api.WallPlain, api.WallSling, x.Kind) && within(0, api.MaxLevel, x.Level) && bounded(api.MaxCoord, x.A, x.B) &&
		within(0, mostRest, x.Rest, x.Grip) && within(0, api.MaxSpeed, x.Kick, x.Min) && within(-1, api.MaxCoil, x.Coil) && within(-1, api.MaxSwitch, x.Switch)
	return facts{x.Name, ranged, x.A != x.B}
}

func arcFacts(x *api.Arc, radius int) facts {
	ranged := within(0, api.MaxLevel, x.Level) && bounded(api.MaxCoord, x.C, x.S, x.E) &&
		within(0, mostRest, x.Rest, x.Grip) && within(0, api.MaxSpeed, x.Min) && within(-1, api.MaxSwitch, x.Switch)
	return facts{x.Name, ranged, curved(x, radius)}
}

// curved reports whether the ends of an arc lie at one whole distance from its center, at which balls have room
// inside, and less than half a turn from each other.
func curved(x *api.Arc, radius int) bool {
	s, e := vector.Sub(x.S, x.C), vector.Sub(x.E, x.C)
	square := vector.Dot(s, s)
	q := vector.Root(square)
	return q*q == square && vector.Dot(e, e) == square && within(2*radius+1, api.MaxSize, q) && vector.Cross(s, e) > 0
}

func postFacts(x *api.Post) facts {
	ranged := within(0, api.MaxLevel, x.Level) && bounded(api.MaxCoord, x.C) && within(0, api.MaxSize, x.Size) &&
		within(0, mostRest, x.Rest, x.Grip) && within(0, api.MaxSpeed, x.Kick, x.Min) && within(-1, api.MaxCoil, x.Coil) && within(-1, api.MaxSwitch, x.Switch)
	return facts{x.Name, ranged, true}
}

func flipperFacts(x *api.Flipper) facts {
	ranged := within(0, api.MaxLevel, x.Level) && bounded(api.MaxCoord, x.P) && within(1, api.MaxSize, x.Length) &&
		within(-api.HalfAngle, api.HalfAngle, x.Low, x.High) && x.Low < x.High &&
		within(1, mostTurn, x.Up, x.Down, x.Max) && x.Max*x.Length <= mostSweep &&
		within(0, mostRest, x.Rest, x.Grip) && within(-1, api.MaxCoil, x.Coil) && within(-1, api.MaxSwitch, x.Switch)
	return facts{x.Name, ranged, true}
}

func zoneFacts(x *api.Zone) facts {
	ranged := within(0, api.MaxLevel, x.Level) && bounded(api.MaxCoord, x.Lo, x.Hi) && bounded(api.MaxHalf, x.Half) && within(-1, api.MaxCoil, x.Coil)
	return facts{x.Name, ranged, x.Lo.X < x.Hi.X && x.Lo.Y < x.Hi.Y}
}

func saucerFacts(x *api.Saucer, radius int) facts {
	ranged := within(0, api.MaxLevel, x.Level) && bounded(api.MaxCoord, x.C) && within(1, api.MaxSize, x.Size) && within(0, mostLimit, x.Limit) &&
		bounded(api.MaxSpeed, x.Out) && within(-1, api.MaxCoil, x.Coil) && within(-1, api.MaxSwitch, x.Switch)
	return facts{x.Name, ranged, x.Size < radius}
}

func laneFacts(x *api.Lane) facts {
	ranged := within(0, api.MaxLevel, x.Level) && bounded(api.MaxCoord, x.C) && within(1, api.MaxSize, x.Size) && within(-1, api.MaxSwitch, x.Switch)
	return facts{x.Name, ranged, true}
}

func rampFacts(x *api.Ramp) facts {
	ranged := within(0, api.MaxLevel, x.From, x.To) && bounded(api.MaxCoord, x.C) && within(1, api.MaxSize, x.Size) && bounded(api.MaxSpeed, x.Dir)
	return facts{x.Name, ranged, x.From != x.To && x.Dir != api.Vec{}}
}

func drainFacts(x *api.Drain) facts {
	ranged := within(0, api.MaxLevel, x.Level) && bounded(api.MaxCoord, x.C) && within(1, api.MaxSize, x.Size)
	return facts{x.Name, ranged, true}
}

func launcherFacts(x *api.Launcher) facts {
	ranged := within(0, api.MaxLevel, x.Level) && bounded(api.MaxCoord, x.At) && bounded(api.MaxSpeed, x.V) && within(0, api.MaxCoil, x.Coil)
	return facts{x.Name, ranged, true}
}

// within reports whether all numbers are at least lo and at most hi.
func within(lo, hi int, numbers ...int) bool {
	for _, n := range numbers {
		if n < lo || n > hi {
			return false
		}
	}
	return true
}

// bounded reports whether all components of some vectors have an absolute value of at most most.
func bounded(most int, vectors ...api.Vec) bool {
	for _, v := range vectors {
		if !within(-most, most, v.X, v.Y) {
			return false
		}
	}
	return true
}
