package schema_test

import (
	"slices"
	"testing"

	"outpost/api"
	"outpost/schema"
)

// turn turns all that forms have, spare room too.
func turn(objs []Obj) {
	objs = objs[:cap(objs)]
	for i := range objs {
		turnRules(objs[i].Rules)
		objs[i] = Obj{ID: -9, Insts: -9}
	}
}

// turnRules turns rules, spare room too.
func turnRules(rules []api.Rule) {
	rules = rules[:cap(rules)]
	for i := range rules {
		rules[i] = api.Rule{ID: -9, Kind: -9}
	}
}

// P18.3: what is answered is nobody else's, spare room too.
func TestAnswersAreNewMemory(t *testing.T) {
	first, second := schema.All(), schema.All()
	for i := range first {
		turnRules(first[i].Rules)
		if !slices.EqualFunc(first[i+1:], objects(t)[i+1:], same) {
			t.Fatalf("All: object %d shares its rules with others", i)
		}
	}
	turn(first)
	if !slices.EqualFunc(second, objects(t), same) || !slices.EqualFunc(schema.All(), objects(t), same) {
		t.Error("All: two answers share memory")
	}
	a, b := schema.Blank(api.Rule{Kind: api.KBytes, Least: 5}), schema.Blank(api.Rule{Kind: api.KBytes, Least: 5})
	for i := range a.B[:cap(a.B)] {
		a.B[:cap(a.B)][i] = 9
	}
	if string(b.B) != "\x00\x00\x00\x00\x00" || string(schema.Blank(api.Rule{Kind: api.KBytes, Least: 5}).B) != string(b.B) {
		t.Error("Blank: two answers share memory")
	}
}

// P18.3: what is handed in stays, behind its length too, and may be written over.
func TestArgumentsStay(t *testing.T) {
	room := append(several(), Obj{ID: 77, Insts: 1, Rules: rising(0, 3)})
	room[0].Rules = slices.Insert(rising(50, 4), 0, several()[0].Rules...)[:3]
	want, spare := several(), rising(50, 4)
	objs := room[:len(want)]
	var found []Obj
	for i, o := range want {
		got, _ := schema.Find(objs, o.ID)
		again, _ := schema.Find(objs, o.ID)
		turnRules(again.Rules)
		_ = append(got.Rules, api.Rule{ID: -1})
		found = append(found, got)
		schema.Rule(objs, o.ID, 4)
		schema.Right(objs[i])
	}
	if !slices.EqualFunc(objs, want, same) || room[6].ID != 77 || !slices.Equal(room[6].Rules, rising(0, 3)) || !slices.Equal(room[0].Rules[3:7], spare) {
		t.Error("what was handed in is turned")
	}
	turn(room)
	want[2] = want[0]
	if !slices.EqualFunc(found, want, same) {
		t.Error("Find keeps an argument")
	}
}

// P18.3: Right leaves the rules as they are, of whichever form.
func TestRightTurnsNothing(t *testing.T) {
	for _, o := range append(schema.All(), several()...) {
		before := slices.Clone(o.Rules)
		if schema.Right(o) != schema.Right(o) || !slices.Equal(o.Rules, before) {
			t.Errorf("object %d is turned", o.ID)
		}
	}
}
