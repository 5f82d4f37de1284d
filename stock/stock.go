// Package stock tells what is an item and what is a bin, and their attributes.
package stock

import "slots/api"

// IsItem tells whether an item is one.
func IsItem(item api.Item) bool {
	if !within(item.Size, 1, api.MaxNumber) {
		return false
	}
	if !within(item.Speed, 0, api.MaxNumber) {
		return false
	}
	return isClass(item.Need)
}

// IsBin tells whether a bin is one.
func IsBin(bin api.Bin) bool {
	if !within(bin.Id, 0, api.MaxNumber) {
		return false
	}
	if !within(bin.Zone, 0, api.MaxZone) {
		return false
	}
	if !within(bin.Cap, 1, api.MaxNumber) {
		return false
	}
	if !within(bin.Used, 0, bin.Cap) {
		return false
	}
	return isClass(bin.Has)
}

func isClass(number int) bool {
	return within(number, api.Dry, api.Safe)
}

func within(number int, least int, most int) bool {
	return least <= number && number <= most
}

// Attribute tells the attribute of that number, of an item and a bin; 0, if there is none.
func Attribute(number int, item api.Item, bin api.Bin) int {
	switch number {
	case api.Size:
		return item.Size
	case api.Speed:
		return item.Speed
	case api.Need:
		return item.Need
	case api.Zone:
		return bin.Zone
	case api.Cap:
		return bin.Cap
	case api.Used:
		return bin.Used
	case api.Has:
		return bin.Has
	}
	return 0
}
