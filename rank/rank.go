// Package rank tells which bins are the best ones for an item.
package rank

import (
	"slots/api"
	"slots/machine"
)

// Best runs an image for an item with each of some bins, in their order: the first fault with its bin, or the k best
// places. It asks for an image, an item and bins: others have no meaning for it.
func Best(image string, item api.Item, bins []api.Bin, k int) api.Ranking {
	places := []api.Place{}
	for i := 0; i < len(bins); i++ {
		result := machine.Run(image, item, bins[i])
		switch result.Kind {
		case api.Faulted:
			return api.Ranking{Fault: result.Value, Bin: bins[i].Id}
		case api.Scored:
			places = with(places, api.Place{Id: bins[i].Id, Score: result.Value})
		}
	}
	return api.Ranking{Best: first(places, k)}
}

// with tells the places, the best first, with one more, which stands behind all that are better.
func with(places []api.Place, place api.Place) []api.Place {
	list := []api.Place{}
	at := 0
	for at < len(places) && better(places[at], place) {
		list = append(list, places[at])
		at++
	}
	list = append(list, place)
	for at < len(places) {
		list = append(list, places[at])
		at++
	}
	return list
}

// better compares the scores themselves: their difference may be no number of 64 bits.
func better(a api.Place, b api.Place) bool {
	if a.Score != b.Score {
		return a.Score > b.Score
	}
	return a.Id < b.Id
}

// first tells the first k places, or all, if there are not so many.
func first(places []api.Place, k int) []api.Place {
	list := []api.Place{}
	for i := 0; i < len(places) && i < k; i++ {
		list = append(list, places[i])
	}
	return list
}
