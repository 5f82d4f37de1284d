// Package slots: policies that say where an item is best put: see DOC.md.
package slots

import (
	"slots/api"
	"slots/check"
	"slots/compile"
	"slots/machine"
	"slots/plain"
	"slots/program"
	"slots/rank"
	"slots/shelf"
	"slots/stock"
	"slots/syntax"
)

// nothing stands for the image while none is loaded: no image is empty.
const nothing = ""

// Store is some bins, with a policy: of that it keeps the image, which ends as the policy says.
type Store struct {
	bins  []api.Bin
	image string
}

// Print tells a policy in its plain form (P3).
func Print(policy string) (string, api.Errno, int) {
	read, err, place := syntax.Read(policy)
	if err != api.OK {
		return "", err, place
	}
	return plain.Text(read), api.OK, 0
}

// Check tells what is wrong with a policy (P4).
func Check(policy string) (api.Errno, int) {
	_, err, place := readSound(policy)
	return err, place
}

// readSound reads a policy with which nothing is wrong; else it tells what is, and where.
func readSound(policy string) (syntax.Policy, api.Errno, int) {
	read, err, place := syntax.Read(policy)
	if err != api.OK {
		return syntax.Policy{}, err, place
	}
	err, place = check.Errors(read)
	if err != api.OK {
		return syntax.Policy{}, err, place
	}
	return read, api.OK, 0
}

// Compile makes an image of a policy (P7).
func Compile(policy string) (string, api.Errno, int) {
	read, err, place := readSound(policy)
	if err != api.OK {
		return "", err, place
	}
	return compile.Image(read), api.OK, 0
}

// Verify tells whether some bytes are an image (P5).
func Verify(image string) api.Errno {
	if !program.IsImage(image) {
		return api.ErrImage
	}
	return api.OK
}

// Run runs an image for an item and a bin (P6).
func Run(image string, item api.Item, bin api.Bin) (api.Result, api.Errno) {
	if !program.IsImage(image) {
		return api.Result{}, api.ErrImage
	}
	if !stock.IsItem(item) {
		return api.Result{}, api.ErrItem
	}
	if !stock.IsBin(bin) {
		return api.Result{}, api.ErrBin
	}
	return machine.Run(image, item, bin), api.OK
}

// New makes a store without bins and without a policy (P8).
func New() *Store { return &Store{} }

// Load takes a policy (P9).
func (s *Store) Load(policy string) (api.Errno, int) {
	image, err, place := Compile(policy)
	if err != api.OK {
		return err, place
	}
	s.image = image
	return api.OK, 0
}

// LoadImage takes an image (P9).
func (s *Store) LoadImage(image string) api.Errno {
	if !program.IsImage(image) {
		return api.ErrImage
	}
	s.image = image
	return api.OK
}

// Add puts a bin into the store (P8).
func (s *Store) Add(bin api.Bin) api.Errno {
	bins, err := shelf.Add(s.bins, bin)
	if err == api.OK {
		s.bins = bins
	}
	return err
}

// Remove takes an empty bin out of the store (P8).
func (s *Store) Remove(id int) api.Errno {
	bins, err := shelf.Remove(s.bins, id)
	if err == api.OK {
		s.bins = bins
	}
	return err
}

// Put fills a bin (P8).
func (s *Store) Put(id int, n int) api.Errno {
	bins, err := shelf.Put(s.bins, id, n)
	if err == api.OK {
		s.bins = bins
	}
	return err
}

// Pick empties a bin (P8).
func (s *Store) Pick(id int, n int) api.Errno {
	bins, err := shelf.Pick(s.bins, id, n)
	if err == api.OK {
		s.bins = bins
	}
	return err
}

// Bins tells all bins (P8).
func (s *Store) Bins() []api.Bin {
	return shelf.Copy(s.bins)
}

// Rank tells the best places for an item (P10).
func (s *Store) Rank(item api.Item, k int) api.Ranking {
	if s.image == nothing {
		return api.Ranking{Err: api.ErrNone}
	}
	if !stock.IsItem(item) {
		return api.Ranking{Err: api.ErrItem}
	}
	if k < 0 {
		return api.Ranking{Err: api.ErrArg}
	}
	return rank.Best(s.image, item, s.bins, k)
}
