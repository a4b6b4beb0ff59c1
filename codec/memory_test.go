package codec_test

import (
	"bytes"
	"cmp"
	"reflect"
	"slices"
	"testing"

	"spinet/api"
	"spinet/codec"
)

// roomy is a chart of which each list has room behind its end.
func roomy() api.Chart {
	c := plain(kinds())
	for s := range c.States {
		one := &c.States[s]
		one.Initial, one.Entry, one.Exit = room(one.Initial, 77), room(one.Entry, api.Act{Kind: 88}), room(one.Exit, api.Act{Kind: 99})
	}
	for i := range c.Trans {
		one := &c.Trans[i]
		one.Targets, one.Acts = room(one.Targets, 66), room(one.Acts, api.Act{Kind: 55})
	}
	c.States, c.Trans = room(c.States, api.State{Kind: 44}), room(c.Trans, api.Trans{Source: 33})
	return c
}

// room is the list with two more behind its end.
func room[T any](l []T, behind T) []T {
	return slices.Concat(l, []T{behind, behind})[:len(l)]
}

// whole is a copy of a chart with what stands behind the ends of its lists, too.
func whole(c api.Chart) api.Chart {
	c.States, c.Trans = toRoom(c.States), toRoom(c.Trans)
	for s, one := range c.States {
		c.States[s].Initial, c.States[s].Entry, c.States[s].Exit = toRoom(one.Initial), toRoom(one.Entry), toRoom(one.Exit)
	}
	for i, one := range c.Trans {
		c.Trans[i].Targets, c.Trans[i].Acts = toRoom(one.Targets), toRoom(one.Acts)
	}
	return c
}

func toRoom[T any](l []T) []T { return copied(l[:cap(l)]) }

// area is where a list lies, with its room.
type area struct{ from, to uintptr }

// areas are those of all lists of these that have room.
func areas(l ...any) []area {
	var found []area
	var look func(reflect.Value)
	look = func(v reflect.Value) {
		switch v.Kind() {
		case reflect.Struct:
			for i := range v.NumField() {
				look(v.Field(i))
			}
		case reflect.Slice:
			if v.Cap() > 0 {
				found = append(found, area{v.Pointer(), v.Pointer() + uintptr(v.Cap())*v.Type().Elem().Size()})
			}
			for i := range v.Len() {
				look(v.Index(i))
			}
		}
	}
	for _, one := range l {
		look(reflect.ValueOf(one))
	}
	return found
}

// checkApart asks that no two lists of these share memory.
func checkApart(t *testing.T, l ...any) {
	t.Helper()
	found := areas(l...)
	slices.SortFunc(found, func(a, b area) int { return cmp.Compare(a.from, b.from) })
	for i := 1; i < len(found); i++ {
		if found[i].from < found[i-1].to {
			t.Errorf("lists share memory: %v", l)
		}
	}
}

// P6.3, R2: what is handed in stays as it is, behind its ends, too, with and
// without an error.

func TestWhatIsHandedInStays(t *testing.T) {
	c := roomy()
	was := whole(c)
	for range 2 {
		checkPut(t, c, kindsBytes(t))
		if !reflect.DeepEqual(whole(c), was) {
			t.Fatalf("%v became %v", was, whole(c))
		}
	}
	c.Trans[3].Source = 0
	was = whole(c)
	checkNoPut(t, c, &api.Spot{At: 16, Err: api.ErrKind})
	if !reflect.DeepEqual(whole(c), was) {
		t.Fatalf("%v became %v", was, whole(c))
	}
}

func TestBytesHandedInStay(t *testing.T) {
	sound := kindsBytes(t)
	long := append(sound, 1, 2, 3)
	for size := range len(long) {
		b := slices.Clone(long)
		if _, err := codec.Get(b[:size]); (err == nil) != (size == len(sound)) {
			t.Errorf("Get of %d bytes: %v", size, err)
		}
		if !bytes.Equal(b, long) {
			t.Fatalf("%v became %v", long, b)
		}
	}
}

// P6.3: what is told is new memory: it shares none with what was handed in, nor
// with what was told ahead of it, and no two of its lists share any.

func TestWhatIsToldIsApart(t *testing.T) {
	for _, handed := range []api.Chart{smallest(), roomy(), regions(), full(), withTexts(200)} {
		first, _ := codec.Put(handed)
		second, _ := codec.Put(handed)
		got, _ := codec.Get(first)
		again, _ := codec.Get(first)
		checkApart(t, handed, first, second, got, again)
	}
}

// Nothing that is told hangs on what is handed in: once that is changed, it is
// what it was.

func TestNothingHangsOnWhatWasHandedIn(t *testing.T) {
	b := kindsBytes(t)
	c, err := codec.Get(b)
	if err != nil {
		t.Fatal(err)
	}
	for i := range b {
		b[i] = 'z'
	}
	if !same(c, kinds()) {
		t.Errorf("the chart became %v", c)
	}
	b, err = codec.Put(c)
	if err != nil {
		t.Fatal(err)
	}
	spoil(&c)
	if !bytes.Equal(b, kindsBytes(t)) {
		t.Errorf("the bytes became %v", b)
	}
}

// spoil changes all that a chart's lists have, and what is behind their ends.
func spoil(c *api.Chart) {
	for s := range c.States {
		one := &c.States[s]
		overwrite(one.Initial)
		overwrite(one.Entry)
		overwrite(one.Exit)
	}
	for i := range c.Trans {
		overwrite(c.Trans[i].Targets)
		overwrite(c.Trans[i].Acts)
	}
	overwrite(c.States)
	overwrite(c.Trans)
}

func overwrite[T any](l []T) { clear(l[:cap(l)]) }

// And nothing is kept: what is told of the same once more is the same, whatever
// becomes of what was told, be it bytes, a chart or an error.

func TestNothingIsKept(t *testing.T) {
	for range 3 {
		b, err := codec.Put(kinds())
		if err != nil {
			t.Fatal(err)
		}
		overwrite(b)
		checkPut(t, kinds(), kindsBytes(t))
		c, err := codec.Get(kindsBytes(t))
		if err != nil {
			t.Fatal(err)
		}
		spoil(&c)
		checkGet(t, kindsBytes(t), kinds())

		for want, b := range map[api.Spot][]byte{
			{At: 1, Err: api.ErrForm}:   {0},
			{At: 1, Err: api.ErrLarge}:  {0, 25},
			{At: 14, Err: api.ErrForm}:  byHand(t, "0 2 0", head, "0 0 7"),
			{At: 1, Err: api.ErrTarget}: byHand(t, "0 2 0  2 0 1 1 0 0  1 1 1 1 0 0"),
		} {
			_, err := codec.Get(b)
			if spot, ok := err.(*api.Spot); ok {
				*spot = api.Spot{At: 77, Err: 78}
			}
			checkFault(t, b, want.At, want.Err)
		}
	}
}
