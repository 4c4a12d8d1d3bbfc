package layout_test

import (
	"reflect"
	"testing"

	"pinball/api"
)

// P9.3: equal tables, also in memory of their own.
func TestSame(t *testing.T) {
	expectSame(t, "two full tables", full(), full(), true)
	expectSame(t, "two zero tables", api.Table{}, api.Table{}, true)
	expectSame(t, "a full table and a plain one", full(), plain(), false)
	expectSame(t, "tables that are not valid", crowd("Walls", 500), crowd("Walls", 500), true)
	x := plain(api.Wall{Name: "\xff", Kind: -1 << 63}, api.Launcher{Coil: -5})
	expectSame(t, "tables with impossible numbers", x, copied(x), true)
}

// P9.3: a difference in each field of the table and of each element of each list.
func TestSameFields(t *testing.T) {
	x := full()
	l := leaves(&x)
	for i, f := range l {
		y := full()
		v := leaves(&y)[i].v
		switch v.Kind() {
		case reflect.Int:
			for _, n := range []int64{v.Int() + 1, v.Int() - 1, v.Int() + 1<<32, -v.Int() - 7} {
				v.SetInt(n)
				expectSame(t, "tables with a different "+f.path, full(), y, false)
			}
		case reflect.String:
			for _, s := range []string{v.String() + "x", "", v.String()[:1], v.String() + "\x00"} {
				v.SetString(s)
				expectSame(t, "tables with a different "+f.path, full(), y, false)
			}
		case reflect.Bool:
			v.SetBool(!v.Bool())
			expectSame(t, "tables with a different "+f.path, full(), y, false)
		default:
			t.Fatal("the test's leaf", f.path)
		}
	}
	if len(l) < 200 {
		t.Error("the test's leaves", len(l))
	}
}

// P9.3: lists of different lengths and orders; empty and nil lists are equal.
func TestSameLists(t *testing.T) {
	for _, i := range lists() {
		name := reflect.TypeFor[api.Table]().Field(i).Name
		for n := range list(new(full()), i).Len() {
			y := full()
			list(&y, i).SetLen(n)
			expectSame(t, "tables with fewer of "+name, full(), y, false)
		}
		y := full()
		l := list(&y, i)
		l.Set(reflect.Append(l, l.Index(0)))
		expectSame(t, "tables with more of "+name, full(), y, false)
		y = full()
		list(&y, i).SetZero()
		expectSame(t, "tables with none of "+name, full(), y, false)
		z := full()
		list(&z, i).SetLen(0)
		expectSame(t, "tables with nil and empty "+name, y, z, true)
		y = full()
		reflect.Swapper(list(&y, i).Interface())(0, 1)
		expectSame(t, "tables with another order of "+name, full(), y, false)
	}
	expectSame(t, "tables with nil and empty lists", plain(), copied(plain()), true)
}
