// Package shelf keeps bins in the order of their Ids. No two of them have one Id.
// Each change makes a new list, and beside an error none: a list that was handed in is never written into.
package shelf

import (
	"slots/api"
	"slots/stock"
)

// Add tells the bins with one more: ErrBin, ErrTwice or ErrFull, if that may not be.
func Add(bins []api.Bin, bin api.Bin) ([]api.Bin, api.Errno) {
	if !stock.IsBin(bin) {
		return nil, api.ErrBin
	}
	_, found := find(bins, bin.Id)
	if found {
		return nil, api.ErrTwice
	}
	if len(bins) >= api.MaxBins {
		return nil, api.ErrFull
	}
	return with(bins, bin), api.OK
}

// Remove tells the bins without one in which there is nothing: else ErrId or ErrUsed.
func Remove(bins []api.Bin, id int) ([]api.Bin, api.Errno) {
	bin, found := find(bins, id)
	if !found {
		return nil, api.ErrId
	}
	if bin.Used > 0 {
		return nil, api.ErrUsed
	}
	return without(bins, id), api.OK
}

// Put tells the bins with n more in one of them: ErrId, ErrArg or ErrFull, if that may not be.
func Put(bins []api.Bin, id int, n int) ([]api.Bin, api.Errno) {
	bin, found := find(bins, id)
	if !found {
		return nil, api.ErrId
	}
	if n < 1 {
		return nil, api.ErrArg
	}
	// Used and n together may be no number of 64 bits; the room that is left is always one.
	if n > bin.Cap-bin.Used {
		return nil, api.ErrFull
	}
	bin.Used += n
	return replaced(bins, bin), api.OK
}

// Pick tells the bins with n less in one of them: ErrId, ErrArg or ErrUsed, if that may not be.
func Pick(bins []api.Bin, id int, n int) ([]api.Bin, api.Errno) {
	bin, found := find(bins, id)
	if !found {
		return nil, api.ErrId
	}
	if n < 1 {
		return nil, api.ErrArg
	}
	if n > bin.Used {
		return nil, api.ErrUsed
	}
	bin.Used -= n
	return replaced(bins, bin), api.OK
}

// Copy tells the same bins in a list of its own.
func Copy(bins []api.Bin) []api.Bin {
	list := []api.Bin{}
	for i := 0; i < len(bins); i++ {
		list = append(list, bins[i])
	}
	return list
}

// find tells the bin of that Id; false, if there is none.
func find(bins []api.Bin, id int) (api.Bin, bool) {
	for i := 0; i < len(bins); i++ {
		if bins[i].Id == id {
			return bins[i], true
		}
	}
	return api.Bin{}, false
}

// with tells the bins with one more, which stands behind all that have a lower Id.
func with(bins []api.Bin, bin api.Bin) []api.Bin {
	list := []api.Bin{}
	at := 0
	for at < len(bins) && bins[at].Id < bin.Id {
		list = append(list, bins[at])
		at++
	}
	list = append(list, bin)
	for at < len(bins) {
		list = append(list, bins[at])
		at++
	}
	return list
}

// without tells the bins but the one of that Id.
func without(bins []api.Bin, id int) []api.Bin {
	list := []api.Bin{}
	for i := 0; i < len(bins); i++ {
		if bins[i].Id != id {
			list = append(list, bins[i])
		}
	}
	return list
}

// replaced tells the bins with one in the place of that which has its Id.
func replaced(bins []api.Bin, bin api.Bin) []api.Bin {
	list := Copy(bins)
	for i := 0; i < len(list); i++ {
		if list[i].Id == bin.Id {
			list[i] = bin
		}
	}
	return list
}
