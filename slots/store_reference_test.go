package slots

import (
	"cmp"
	"math/big"
	"slices"

	"slots/api"
)

// A second, slow reading of stores: bins by their Ids, in no order; the policy itself in place of its image; sums with
// numbers that have no bound.

type refStore struct {
	bins  map[int]api.Bin
	says  func(item api.Item, bin api.Bin) api.Result
	loads int
}

func newRefStore() *refStore { return &refStore{bins: map[int]api.Bin{}} }

func (s *refStore) add(bin api.Bin) api.Errno {
	_, twice := s.bins[bin.Id]
	switch {
	case !refIsBin(bin):
		return api.ErrBin
	case twice:
		return api.ErrTwice
	case len(s.bins) == 12:
		return api.ErrFull
	}
	s.bins[bin.Id] = bin
	return api.OK
}

func (s *refStore) remove(id int) api.Errno {
	bin, found := s.bins[id]
	switch {
	case !found:
		return api.ErrId
	case bin.Used != 0:
		return api.ErrUsed
	}
	delete(s.bins, id)
	return api.OK
}

// change is Put, or Pick if it takes away.
func (s *refStore) change(id int, n int, takes bool) api.Errno {
	bin, found := s.bins[id]
	if !found {
		return api.ErrId
	}
	if n <= 0 {
		return api.ErrArg
	}
	used := big.NewInt(int64(n))
	if takes {
		used.Neg(used)
	}
	used.Add(used, big.NewInt(int64(bin.Used)))
	if used.Cmp(big.NewInt(int64(bin.Cap))) > 0 {
		return api.ErrFull
	}
	if used.Sign() < 0 {
		return api.ErrUsed
	}
	bin.Used = int(used.Int64())
	s.bins[id] = bin
	return api.OK
}

func (s *refStore) list() []api.Bin {
	list := []api.Bin{}
	for id := range 1001 {
		if bin, found := s.bins[id]; found {
			list = append(list, bin)
		}
	}
	return list
}

func (s *refStore) load(policy string) (api.Errno, int) {
	if err, place := refCheck(policy); err != api.OK {
		return err, place
	}
	rules := refRules(policy)
	s.says = func(item api.Item, bin api.Bin) api.Result { return refSays(rules, item, bin) }
	s.loads++
	return api.OK, 0
}

func (s *refStore) loadImage(image string) api.Errno {
	if !refIsImage(image) {
		return api.ErrImage
	}
	s.says = func(item api.Item, bin api.Bin) api.Result {
		result, _ := refRun(image, item, bin)
		return result
	}
	s.loads++
	return api.OK
}

func (s *refStore) rank(item api.Item, k int) api.Ranking {
	switch {
	case s.loads == 0:
		return api.Ranking{Err: api.ErrNone}
	case !refIsItem(item):
		return api.Ranking{Err: api.ErrItem}
	case k < 0:
		return api.Ranking{Err: api.ErrArg}
	}
	best := []api.Place{}
	for _, bin := range s.list() {
		said := s.says(item, bin)
		if said.Kind == api.Faulted {
			return api.Ranking{Fault: said.Value, Bin: bin.Id}
		}
		if said.Kind == api.Scored {
			best = append(best, api.Place{Id: bin.Id, Score: said.Value})
		}
	}
	slices.SortFunc(best, func(a, b api.Place) int {
		return cmp.Or(cmp.Compare(b.Score, a.Score), cmp.Compare(a.Id, b.Id))
	})
	return api.Ranking{Best: best[:min(k, len(best))]}
}
