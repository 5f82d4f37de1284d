package slots

import (
	"math/rand"
	"slices"
	"strings"
	"testing"

	"slots/api"
)

func storeOf(t *testing.T, bins ...api.Bin) *Store {
	t.Helper()
	s := New()
	for _, bin := range bins {
		wantErrno(t, "Add", s.Add(bin), api.OK)
	}
	return s
}

func wantErrno(t *testing.T, call string, got api.Errno, want api.Errno) {
	t.Helper()
	if got != want {
		t.Errorf("%s = %d, want %d", call, got, want)
	}
}

func wantBins(t *testing.T, s *Store, want ...api.Bin) {
	t.Helper()
	if got := s.Bins(); !slices.Equal(got, want) {
		t.Errorf("P8: Bins() = %v, want %v", got, want)
	}
}

func wantLoad(t *testing.T, s *Store, policy string, want api.Errno, at int) {
	t.Helper()
	if err, place := s.Load(policy); err != want || place != at {
		t.Errorf("P9: Load(%.60q) = %d, %d, want %d, %d", policy, err, place, want, at)
	}
}

// sameRanking tells whether two answers are one; where there is an error or a fault there is no list, not even an empty one.
func sameRanking(got, want api.Ranking) bool {
	if (want.Err != api.OK || want.Fault != 0) && got.Best != nil {
		return false
	}
	return got.Err == want.Err && got.Fault == want.Fault && got.Bin == want.Bin && slices.Equal(got.Best, want.Best)
}

func wantRanking(t *testing.T, s *Store, item api.Item, k int, want api.Ranking) {
	t.Helper()
	if got := s.Rank(item, k); !sameRanking(got, want) {
		t.Errorf("P10: Rank(%v, %d) = %+v, want %+v", item, k, got, want)
	}
}

// wantBest asks for Ids and scores, in turn.
func wantBest(t *testing.T, s *Store, k int, want ...int) {
	t.Helper()
	best := []api.Place{}
	for i := 0; i < len(want); i += 2 {
		best = append(best, api.Place{Id: want[i], Score: want[i+1]})
	}
	wantRanking(t, s, someItem, k, api.Ranking{Best: best})
}

func TestStoreExamples(t *testing.T) {
	s := storeOf(t, api.Bin{Id: 4, Zone: 1, Cap: 10}, api.Bin{Id: 2, Zone: 3, Cap: 10}, api.Bin{Id: 9, Zone: 3, Cap: 10})
	wantLoad(t, s, "score zone * 2 - used;", api.OK, 0)
	wantBest(t, s, 2, 2, 6, 9, 6)
	wantErrno(t, "P8: Put(2, 1)", s.Put(2, 1), api.OK)
	wantBest(t, s, 2, 9, 6, 2, 5)
	wantLoad(t, s, "score 6 / (zone - 3);", api.OK, 0)
	wantRanking(t, s, someItem, 2, api.Ranking{Fault: api.ByZero, Bin: 2})
}

func TestNewStore(t *testing.T) {
	s := New()
	if s == nil {
		t.Fatal("P8: New() = nil")
	}
	wantBins(t, s)
	for _, item := range []api.Item{someItem, {}} {
		for _, k := range []int{0, 1, -1, leastInt, mostInt} {
			wantRanking(t, s, item, k, api.Ranking{Err: api.ErrNone})
		}
	}
	for _, id := range []int{0, 1, -1, 1000, leastInt, mostInt} {
		wantErrno(t, "P8: Remove", s.Remove(id), api.ErrId)
		wantErrno(t, "P8: Put", s.Put(id, 0), api.ErrId)
		wantErrno(t, "P8: Pick", s.Pick(id, 0), api.ErrId)
	}
	wantLoad(t, s, "score 1/0;", api.OK, 0)
	wantBest(t, s, 5)
	wantBins(t, s)
}

func TestAdd(t *testing.T) {
	for _, bin := range []api.Bin{
		{Cap: 1}, {Id: 1000, Zone: 9, Cap: 1000, Used: 1000, Has: 2}, {Id: 3, Cap: 1, Used: 1, Has: 1},
	} {
		wantBins(t, storeOf(t, bin), bin)
	}
	s := storeOf(t, api.Bin{Id: 5, Cap: 7, Used: 2})
	for _, bin := range []api.Bin{
		{}, {Id: 5}, {Id: -1, Cap: 1}, {Id: 1001, Cap: 1}, {Id: leastInt, Cap: 1}, {Id: mostInt, Cap: 1}, {Cap: -1}, {Cap: 1001}, {Cap: leastInt}, {Cap: mostInt},
		{Cap: 1, Zone: -1}, {Cap: 1, Zone: 10}, {Cap: 5, Used: 6}, {Cap: 5, Used: -1}, {Cap: 5, Used: leastInt}, {Cap: 5, Used: mostInt}, {Cap: 1, Has: -1}, {Cap: 1, Has: 3},
		{Id: 5, Cap: 1, Has: 3},
	} {
		wantErrno(t, "P8: Add of no bin", s.Add(bin), api.ErrBin)
	}
	wantErrno(t, "P8: Add of a bin that is there", s.Add(api.Bin{Id: 5, Cap: 7, Used: 2}), api.ErrTwice)
	wantErrno(t, "P8: Add of another bin of an Id", s.Add(api.Bin{Id: 5, Cap: 9, Zone: 4}), api.ErrTwice)
	wantBins(t, s, api.Bin{Id: 5, Cap: 7, Used: 2})
}

func TestAddUpToMaxBins(t *testing.T) {
	// Ids rising, falling and mixed.
	for _, step := range []int{1, 12, 5} {
		s := New()
		want := []api.Bin{}
		for i := 1; i <= api.MaxBins; i++ {
			bin := api.Bin{Id: 10 + i*step%13, Cap: i}
			wantErrno(t, "P8: Add", s.Add(bin), api.OK)
			want = append(want, bin)
			slices.SortFunc(want, func(a, b api.Bin) int { return a.Id - b.Id })
			wantBins(t, s, want...)
		}
		for _, id := range []int{0, 10, 23, 1000} {
			wantErrno(t, "P8: Add of one bin too many", s.Add(api.Bin{Id: id, Cap: 1}), api.ErrFull)
		}
		wantErrno(t, "P8: Add of one too many that is there", s.Add(api.Bin{Id: 15, Cap: 1}), api.ErrTwice)
		wantErrno(t, "P8: Add of one too many that is none", s.Add(api.Bin{Id: 15, Cap: 0}), api.ErrBin)
		wantErrno(t, "P8: Add of one too many that is none", s.Add(api.Bin{Id: 0, Cap: 0}), api.ErrBin)
		wantBins(t, s, want...)
		wantErrno(t, "P8: Remove", s.Remove(15), api.OK)
		wantErrno(t, "P8: Add of one where there is room again", s.Add(api.Bin{Id: 0, Cap: 3}), api.OK)
		wantErrno(t, "P8: Add of one bin too many", s.Add(api.Bin{Id: 15, Cap: 3}), api.ErrFull)
	}
}

func TestRemove(t *testing.T) {
	empty, half, full := api.Bin{Id: 0, Cap: 2}, api.Bin{Id: 7, Cap: 2, Used: 1}, api.Bin{Id: 1000, Cap: 2, Used: 2}
	s := storeOf(t, full, half, empty)
	wantErrno(t, "P8: Remove(7)", s.Remove(7), api.ErrUsed)
	wantErrno(t, "P8: Remove(1000)", s.Remove(1000), api.ErrUsed)
	for _, id := range []int{1, 6, 8, 999, 1001, -1, leastInt, mostInt} {
		wantErrno(t, "P8: Remove of none", s.Remove(id), api.ErrId)
	}
	wantBins(t, s, empty, half, full)
	wantErrno(t, "P8: Remove(0)", s.Remove(0), api.OK)
	wantErrno(t, "P8: Remove(0)", s.Remove(0), api.ErrId)
	wantBins(t, s, half, full)
	wantErrno(t, "P8: Pick(7, 1)", s.Pick(7, 1), api.OK)
	wantErrno(t, "P8: Remove(7)", s.Remove(7), api.OK)
	wantBins(t, s, full)
	wantErrno(t, "P8: Add", s.Add(api.Bin{Id: 7, Cap: 3, Used: 3}), api.OK)
	wantBins(t, s, api.Bin{Id: 7, Cap: 3, Used: 3}, full)
}

func TestPutAndPick(t *testing.T) {
	numbers := []int{leastInt, leastInt + 1, -1000, mostInt - 4, mostInt - 1, mostInt, 1000, 1001}
	for n := -3; n <= 8; n++ {
		numbers = append(numbers, n)
	}
	for room := 1; room <= 4; room++ {
		for used := 0; used <= room; used++ {
			for _, n := range numbers {
				checkPutAndPick(t, api.Bin{Id: 3, Zone: 1, Cap: room, Used: used, Has: 2}, n)
			}
		}
	}
	checkPutAndPick(t, api.Bin{Id: 3, Cap: 1000}, 1000)
	checkPutAndPick(t, api.Bin{Id: 3, Cap: 1000, Used: 1000}, 1000)
	checkPutAndPick(t, api.Bin{Id: 3, Cap: 1000, Used: 1}, 1000)
	checkPutAndPick(t, api.Bin{Id: 3, Cap: 1000, Used: 999}, 1000)
}

func checkPutAndPick(t *testing.T, bin api.Bin, n int) {
	t.Helper()
	lower, upper := api.Bin{Id: 2, Cap: 9, Used: 5}, api.Bin{Id: 4, Cap: 9, Used: 5}
	more, put := bin, api.OK
	less, pick := bin, api.OK
	switch {
	case n < 1:
		put, pick = api.ErrArg, api.ErrArg
	case n > 1000:
		put, pick = api.ErrFull, api.ErrUsed
	default:
		more.Used += n
		less.Used -= n
	}
	if more.Used > bin.Cap {
		more, put = bin, api.ErrFull
	}
	if less.Used < 0 {
		less, pick = bin, api.ErrUsed
	}
	s := storeOf(t, lower, upper, bin)
	wantErrno(t, "P8: Put", s.Put(bin.Id, n), put)
	wantBins(t, s, lower, more, upper)
	s = storeOf(t, lower, upper, bin)
	wantErrno(t, "P8: Pick", s.Pick(bin.Id, n), pick)
	wantBins(t, s, lower, less, upper)
	for _, id := range []int{1, 5, -1, leastInt, mostInt} {
		wantErrno(t, "P8: Put into none", s.Put(id, n), api.ErrId)
		wantErrno(t, "P8: Pick from none", s.Pick(id, n), api.ErrId)
	}
	wantBins(t, s, lower, less, upper)
}

func TestLoad(t *testing.T) {
	wrong := []struct {
		policy string
		err    api.Errno
		at     int
	}{
		{strings.Repeat(" ", 401), api.ErrLong, 0},
		{"score 1; @", api.ErrToken, 9},
		{"", api.ErrSyntax, 0},
		{"score 1", api.ErrSyntax, 7},
		{"score 1; score x;", api.ErrName, 15},
		{"when size score 1;", api.ErrType, 5},
		{"score 1 + (2 < 3);", api.ErrType, 8},
		{"score " + sum(76) + ";", api.ErrBig, 0},
		// An image is no policy.
		{"SL\x00\x11", api.ErrToken, 0},
	}
	fresh := storeOf(t, someBin)
	s := storeOf(t, someBin)
	wantLoad(t, s, "score zone;", api.OK, 0)
	for _, w := range wrong {
		wantLoad(t, fresh, w.policy, w.err, w.at)
		wantRanking(t, fresh, someItem, 1, api.Ranking{Err: api.ErrNone})
		wantLoad(t, s, w.policy, w.err, w.at)
		wantBest(t, s, 1, 3, 2)
		wantBins(t, s, someBin)
	}
	wantLoad(t, s, "let a = cap; score a - used;", api.OK, 0)
	wantBest(t, s, 1, 3, 16)
	wantLoad(t, s, "reject;", api.OK, 0)
	wantBest(t, s, 1)
	wantLoad(t, s, "score "+sum(75)+";", api.OK, 0)
	wantBest(t, s, 1, 3, 75)
	wantBins(t, s, someBin)
}

func TestLoadImage(t *testing.T) {
	fresh := storeOf(t, someBin)
	s := storeOf(t, someBin)
	wantErrno(t, "P9: LoadImage", s.LoadImage("SL\x01\x01\x03\x10"), api.OK)
	long := imageOf(1, attrOp(0), strings.Repeat(ops(api.Neg), 3995), ops(api.Score))
	for _, image := range []string{"", "SL", "SL\x00", "SL\x00\x10", "SL\x00\x01\x03\x10", "SL\x00\x11\x11", "SL\x00\x0d\x00\x00", "reject;", long} {
		wantErrno(t, "P9: LoadImage", fresh.LoadImage(image), api.ErrImage)
		wantRanking(t, fresh, someItem, 1, api.Ranking{Err: api.ErrNone})
		wantErrno(t, "P9: LoadImage", s.LoadImage(image), api.ErrImage)
		wantBest(t, s, 1, 3, 2)
		wantBins(t, s, someBin)
	}
	// The one takes the place of the other.
	wantLoad(t, s, "score used;", api.OK, 0)
	wantBest(t, s, 1, 3, 4)
	wantErrno(t, "P9: LoadImage", s.LoadImage("SL\x00\x11"), api.OK)
	wantBest(t, s, 1)
	wantErrno(t, "P9: LoadImage", s.LoadImage("SL\x02\x01\x04\x01\x05\x05\x10"), api.OK)
	wantBest(t, s, 1, 3, 16)
	image := wantImage(t, shop)
	wantErrno(t, "P9: LoadImage", s.LoadImage(image), api.OK)
	wantBest(t, s, 1)
	wantErrno(t, "P9: LoadImage", fresh.LoadImage(long[:len(long)-2]+ops(api.Score)), api.OK)
	wantBest(t, fresh, 1, 3, 5)
}

func TestRankErrors(t *testing.T) {
	s := storeOf(t, zeroBin)
	items := []api.Item{
		{}, {Size: 0, Speed: 1}, {Size: -1}, {Size: 1001}, {Size: leastInt}, {Size: mostInt}, {Size: 1, Speed: -1}, {Size: 1, Speed: 1001}, {Size: 1, Need: -1}, {Size: 1, Need: 3},
	}
	for _, item := range items {
		wantRanking(t, s, item, -1, api.Ranking{Err: api.ErrNone})
	}
	// What is loaded faults with the only bin: every error comes ahead of that.
	wantLoad(t, s, "score 1 / zone;", api.OK, 0)
	for _, item := range items {
		for _, k := range []int{0, 1, mostInt, -1, leastInt} {
			wantRanking(t, s, item, k, api.Ranking{Err: api.ErrItem})
		}
	}
	for _, item := range []api.Item{{Size: 1}, {Size: 1000, Speed: 1000, Need: 2}} {
		for _, k := range []int{-1, -2, -1000, leastInt} {
			wantRanking(t, s, item, k, api.Ranking{Err: api.ErrArg})
		}
		for _, k := range []int{0, 1, mostInt} {
			wantRanking(t, s, item, k, api.Ranking{Fault: api.ByZero, Bin: 4})
		}
	}
	wantBins(t, s, zeroBin)
}

func TestRankFaults(t *testing.T) {
	a, b, c := api.Bin{Id: 0, Zone: 1, Cap: 5, Used: 1}, api.Bin{Id: 6, Zone: 2, Cap: 5, Used: 2}, api.Bin{Id: 8, Zone: 3, Cap: 5, Used: 3}
	s := storeOf(t, c, a, b)
	great := "let great = 999999999999999999 * 9; "
	for _, f := range []struct {
		policy string
		fault  int
		bin    int
	}{
		{"score 1 / (zone - 1);", api.ByZero, 0},
		{"score 1 / (zone - 2);", api.ByZero, 6},
		{"score 1 % (zone - 3);", api.ByZero, 8},
		// The first fault is the one of the lowest Id, whatever was scored or rejected ahead of it.
		{"when zone = 1 score 9; score 1 / 0;", api.ByZero, 6},
		{"when zone = 1 reject; score 1 / 0;", api.ByZero, 6},
		{"when zone = 3 score 1 / 0; score 9;", api.ByZero, 8},
		{great + "when zone = 1 score great * 2; score 1 / 0;", api.Overflow, 0},
		{great + "when zone = 3 score great * 2; when zone = 2 score 1 / 0; reject;", api.ByZero, 6},
		{great + "when zone = 3 score 1 / 0; score great * zone;", api.Overflow, 6},
		{"when 1 / 0 = 1 reject; score 1;", api.ByZero, 0},
	} {
		wantLoad(t, s, f.policy, api.OK, 0)
		for _, k := range []int{0, 1, 2, 3, mostInt} {
			wantRanking(t, s, someItem, k, api.Ranking{Fault: f.fault, Bin: f.bin})
		}
	}
	wantErrno(t, "P9: LoadImage", s.LoadImage(imageOf(2, intOp(leastInt), ops(api.Neg, api.Score))), api.OK)
	wantRanking(t, s, someItem, 1, api.Ranking{Fault: api.Overflow, Bin: 0})
	// Where the bin that faults is gone, or filled otherwise, there is no fault.
	wantLoad(t, s, "score 1 / (used - 1);", api.OK, 0)
	wantRanking(t, s, someItem, 1, api.Ranking{Fault: api.ByZero, Bin: 0})
	wantErrno(t, "P8: Pick(0, 1)", s.Pick(0, 1), api.OK)
	wantBest(t, s, 3, 6, 1, 8, 0, 0, -1)
	wantErrno(t, "P8: Pick(6, 1)", s.Pick(6, 1), api.OK)
	wantRanking(t, s, someItem, 3, api.Ranking{Fault: api.ByZero, Bin: 6})
}

func TestRankOrder(t *testing.T) {
	bins := []api.Bin{
		{Id: 11, Zone: 4, Cap: 1}, {Id: 3, Zone: 4, Cap: 2}, {Id: 1000, Zone: 0, Cap: 3}, {Id: 0, Zone: 2, Cap: 4}, {Id: 5, Zone: 9, Cap: 5}, {Id: 7, Zone: 4, Cap: 6},
	}
	for _, c := range []struct {
		policy string
		best   []int
	}{
		{"score zone;", []int{5, 9, 3, 4, 7, 4, 11, 4, 0, 2, 1000, 0}},
		{"score -zone;", []int{1000, 0, 0, -2, 3, -4, 7, -4, 11, -4, 5, -9}},
		{"score 7;", []int{0, 7, 3, 7, 5, 7, 7, 7, 11, 7, 1000, 7}},
		{"score cap;", []int{7, 6, 5, 5, 0, 4, 1000, 3, 3, 2, 11, 1}},
		{"when zone = 4 score 0 - cap; when zone = 0 score 0;", []int{1000, 0, 11, -1, 3, -2, 7, -6}},
		{"when zone < 4 reject; score zone / 9;", []int{5, 1, 3, 0, 7, 0, 11, 0}},
		{"reject;", nil},
		{"when size = 6 score 1;", nil},
		// The difference of such scores is no number of 64 bits.
		{least + most + "when zone = 4 score least; when zone = 0 score most; when zone = 9 score -1; score 1;",
			[]int{1000, mostInt, 0, 1, 5, -1, 3, leastInt, 7, leastInt, 11, leastInt}},
	} {
		for _, way := range []int64{1, 2, 3} {
			mixed := slices.Clone(bins)
			rand.New(rand.NewSource(way)).Shuffle(len(mixed), func(i, j int) { mixed[i], mixed[j] = mixed[j], mixed[i] })
			s := storeOf(t, mixed...)
			wantLoad(t, s, c.policy, api.OK, 0)
			for k := 0; k <= len(bins)+2; k++ {
				wantBest(t, s, k, c.best[:min(2*k, len(c.best))]...)
			}
			wantBest(t, s, mostInt, c.best...)
		}
	}
}

func TestRankLooksAtTheItem(t *testing.T) {
	s := storeOf(t, api.Bin{Id: 1, Cap: 9, Has: api.Cold}, api.Bin{Id: 2, Cap: 9, Has: api.Dry}, api.Bin{Id: 3, Cap: 4, Has: api.Cold})
	wantLoad(t, s, "when need != has or cap - used < size reject; score speed - cap;", api.OK, 0)
	wantRanking(t, s, api.Item{Size: 4, Speed: 10, Need: api.Cold}, 5, api.Ranking{Best: []api.Place{{Id: 3, Score: 6}, {Id: 1, Score: 1}}})
	wantRanking(t, s, api.Item{Size: 5, Speed: 10, Need: api.Cold}, 5, api.Ranking{Best: []api.Place{{Id: 1, Score: 1}}})
	wantRanking(t, s, api.Item{Size: 5, Speed: 0, Need: api.Dry}, 5, api.Ranking{Best: []api.Place{{Id: 2, Score: -9}}})
	wantRanking(t, s, api.Item{Size: 5, Speed: 0, Need: api.Safe}, 5, api.Ranking{})
}

// spoilBins writes into a list and into its spare room.
func spoilBins(list []api.Bin) {
	list = list[:cap(list)]
	for i := range list {
		list[i] = api.Bin{Id: 77, Zone: 7, Cap: 7, Used: 7, Has: 1}
	}
}

func spoilPlaces(list []api.Place) {
	list = list[:cap(list)]
	for i := range list {
		list[i] = api.Place{Id: 77, Score: 777}
	}
}

func TestListsAreTheCallers(t *testing.T) {
	bins := []api.Bin{}
	s := New()
	wantLoad(t, s, "score 5 - zone;", api.OK, 0)
	want := []int{}
	for id := range api.MaxBins {
		bin := api.Bin{Id: id, Zone: min(id, 9), Cap: 10}
		wantErrno(t, "P8: Add", s.Add(bin), api.OK)
		bins = append(bins, bin)
		want = append(want, id, 5-min(id, 9))
		firstBins, secondBins := s.Bins(), s.Bins()
		firstRank, secondRank := s.Rank(someItem, id), s.Rank(someItem, id+1)
		spoilBins(firstBins)
		spoilPlaces(firstRank.Best)
		if !slices.Equal(secondBins, bins) {
			t.Errorf("P2: a list of bins is changed with another: %v", secondBins)
		}
		if len(secondRank.Best) != id+1 || secondRank.Best[0] != (api.Place{Id: 0, Score: 5}) {
			t.Errorf("P2: a list of places is changed with another: %v", secondRank.Best)
		}
		wantBins(t, s, bins...)
		wantBest(t, s, id+1, want...)
		// What came out stays as it was, whatever the store does then.
		wantErrno(t, "P8: Put", s.Put(id, 1), api.OK)
		wantErrno(t, "P8: Pick", s.Pick(id, 1), api.OK)
		if !slices.Equal(secondBins, bins) {
			t.Errorf("P2: a list of bins is changed by the store: %v", secondBins)
		}
	}
	kept := s.Bins()
	wantErrno(t, "P8: Put", s.Put(4, 3), api.OK)
	wantErrno(t, "P8: Remove", s.Remove(0), api.OK)
	if !slices.Equal(kept, bins) {
		t.Errorf("P2: a list of bins is changed by the store: %v", kept)
	}
}

func TestStoresAreApart(t *testing.T) {
	one, two := storeOf(t, someBin), storeOf(t, someBin)
	wantLoad(t, one, "score zone;", api.OK, 0)
	wantRanking(t, two, someItem, 1, api.Ranking{Err: api.ErrNone})
	wantErrno(t, "P9: LoadImage", two.LoadImage("SL\x01\x01\x04\x10"), api.OK)
	wantBest(t, one, 1, 3, 2)
	wantBest(t, two, 1, 3, 20)
	wantErrno(t, "P8: Put", two.Put(3, 1), api.OK)
	wantBins(t, one, someBin)
	wantErrno(t, "P8: Pick", one.Pick(3, 4), api.OK)
	wantErrno(t, "P8: Remove", one.Remove(3), api.OK)
	wantErrno(t, "P8: Add", one.Add(api.Bin{Id: 1, Cap: 1}), api.OK)
	wantBins(t, two, api.Bin{Id: 3, Zone: 2, Cap: 20, Used: 5, Has: api.Safe})
	wantBest(t, two, 1, 3, 20)
	wantBins(t, New())
}

// pair is a store and its second reading.
type pair struct {
	store *Store
	ref   *refStore
}

// answer is what a call answered: an error, the kind of a fault or how many places.
type answer struct {
	call   string
	number int
}

// keeper does things with stores, most of them sound.
type keeper struct {
	t     *testing.T
	with  imager
	maker *maker
	seen  map[answer]int
}

// number tells one that is seldom far from the others.
func (k *keeper) number(n int) int {
	switch k.with.Intn(25) {
	case 0:
		return -1 - k.with.Intn(3)
	case 1:
		return []int{leastInt, mostInt, leastInt + 3, mostInt - 3, 1000, 1001}[k.with.Intn(6)]
	}
	return k.with.Intn(n)
}

func (k *keeper) bin() api.Bin {
	if k.with.Intn(8) == 0 {
		return api.Bin{Id: k.number(20), Zone: k.number(10), Cap: k.number(8), Used: k.number(8), Has: k.number(3)}
	}
	room := 1 + k.with.Intn(6)
	return api.Bin{Id: k.with.Intn(20), Zone: k.with.Intn(3), Cap: room, Used: k.with.Intn(3) * k.with.Intn(room+1) / 2, Has: k.with.Intn(3)}
}

func (k *keeper) item() api.Item {
	if k.with.Intn(8) == 0 {
		return api.Item{Size: k.number(4), Speed: k.number(4), Need: k.number(4)}
	}
	return api.Item{Size: 1 + k.with.Intn(6), Speed: k.with.Intn(4), Need: k.with.Intn(3)}
}

func (k *keeper) policy() string {
	if k.with.Intn(3) > 0 {
		return k.maker.policy()
	}
	plain := []string{
		"when need = has score zone * 2 - used;", "score cap / (zone - 1);", "when cap - used < size reject; score zone;", "score zone % 2;", "score -cap;",
	}
	return plain[k.with.Intn(len(plain))]
}

func (k *keeper) image() string {
	code := k.with.act(k.with.Intn(3))
	image := imageOf(20, code)
	if k.with.Intn(3) == 0 {
		return k.with.broken(image)
	}
	return image
}

func (k *keeper) compareErrno(call string, got, want api.Errno) {
	k.t.Helper()
	k.seen[answer{call, int(want)}]++
	if got != want {
		k.t.Fatalf("%s = %d, want %d", call, got, want)
	}
}

func (k *keeper) change(p pair) {
	k.t.Helper()
	id, n := k.number(20), k.number(5)
	switch k.with.Intn(5) {
	case 0, 1:
		bin := k.bin()
		k.compareErrno("Add", p.store.Add(bin), p.ref.add(bin))
	case 2:
		k.compareErrno("Remove", p.store.Remove(id), p.ref.remove(id))
	case 3:
		k.compareErrno("Put", p.store.Put(id, n), p.ref.change(id, n, false))
	case 4:
		k.compareErrno("Pick", p.store.Pick(id, n), p.ref.change(id, n, true))
	}
}

func (k *keeper) load(p pair) {
	k.t.Helper()
	if k.with.Intn(2) == 0 {
		image := k.image()
		k.compareErrno("LoadImage", p.store.LoadImage(image), p.ref.loadImage(image))
		return
	}
	policy := k.policy()
	err, at := p.store.Load(policy)
	wantErr, wantAt := p.ref.load(policy)
	k.compareErrno("Load", err, wantErr)
	if at != wantAt {
		k.t.Fatalf("P9: Load(%q) = %d, %d, want %d, %d", policy, err, at, wantErr, wantAt)
	}
}

func (k *keeper) compare(p pair) {
	k.t.Helper()
	bins := p.store.Bins()
	if !slices.Equal(bins, p.ref.list()) {
		k.t.Fatalf("P8: Bins() = %v, want %v", bins, p.ref.list())
	}
	item, best := k.item(), k.number(14)
	got, want := p.store.Rank(item, best), p.ref.rank(item, best)
	if !sameRanking(got, want) {
		k.t.Fatalf("P10: Rank(%v, %d) with the bins %v = %+v, want %+v", item, best, bins, got, want)
	}
	k.compareErrno("Rank", got.Err, want.Err)
	k.seen[answer{"fault", want.Fault}]++
	k.seen[answer{"places", len(want.Best)}]++
	spoilBins(bins)
	spoilPlaces(got.Best)
}

func TestManyStores(t *testing.T) {
	random := rand.New(rand.NewSource(5))
	k := &keeper{t: t, with: imager{random}, maker: &maker{Rand: random}, seen: map[answer]int{}}
	for range 300 {
		pairs := []pair{{New(), newRefStore()}, {New(), newRefStore()}}
		for range 120 {
			k.change(pairs[random.Intn(2)])
			if random.Intn(6) == 0 {
				k.load(pairs[random.Intn(2)])
			}
			k.compare(pairs[0])
			k.compare(pairs[1])
		}
	}
	answers := map[string][]api.Errno{
		"Add": {api.OK, api.ErrBin, api.ErrTwice, api.ErrFull}, "Remove": {api.OK, api.ErrId, api.ErrUsed},
		"Put": {api.OK, api.ErrId, api.ErrArg, api.ErrFull}, "Pick": {api.OK, api.ErrId, api.ErrArg, api.ErrUsed},
		"Load": {api.OK, api.ErrName, api.ErrType}, "LoadImage": {api.OK, api.ErrImage},
		"Rank": {api.OK, api.ErrNone, api.ErrItem, api.ErrArg}, "fault": {0, api.Overflow, api.ByZero},
		"places": {0, 1, 2, 3, 4, 5, 6, 7, 8},
	}
	for call, numbers := range answers {
		for _, number := range numbers {
			if n := k.seen[answer{call, int(number)}]; n < 50 {
				t.Errorf("%s %d came %d times: too seldom to be tested", call, number, n)
			}
		}
	}
}
