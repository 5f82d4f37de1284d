package shelf

import (
	"slices"
	"testing"

	"slots/api"
)

// What is made of a list has no memory in common with it, and the list stays as it was, in its spare room too.
func TestNoListIsWrittenInto(t *testing.T) {
	room := []api.Bin{{Id: 2, Cap: 5}, {Id: 4, Cap: 5, Used: 2}, {Id: 6, Cap: 5}, {Id: 8, Cap: 5}}
	before := slices.Clone(room)
	bins := room[:3]
	low, high := api.Bin{Id: 3, Cap: 1}, api.Bin{Id: 7, Cap: 1}
	check := func(call string, made []api.Bin, err api.Errno, want ...api.Bin) {
		t.Helper()
		if err != api.OK || !slices.Equal(made, want) {
			t.Errorf("%s: %v, %d, want %v", call, made, err, want)
		}
		for i := range made {
			made[i] = api.Bin{}
		}
		if !slices.Equal(room, before) {
			t.Fatalf("%s: the list that was handed in is %v, and was %v", call, room, before)
		}
	}
	made, err := Add(bins, low)
	check("Add", made, err, before[0], low, before[1], before[2])
	made, err = Add(bins, high)
	check("Add", made, err, before[0], before[1], before[2], high)
	made, err = Remove(bins, 2)
	check("Remove", made, err, before[1], before[2])
	made, err = Put(bins, 4, 3)
	check("Put", made, err, before[0], api.Bin{Id: 4, Cap: 5, Used: 5}, before[2])
	made, err = Pick(bins, 4, 2)
	check("Pick", made, err, before[0], api.Bin{Id: 4, Cap: 5}, before[2])
	check("Copy", Copy(bins), api.OK, before[:3]...)
}
