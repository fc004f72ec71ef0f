package sess

import (
	"slices"

	"lych/api"
)

// Peer tells l with p as the last one, and nowhere else: at most api.MaxPeers, the oldest ones go.
func Peer(l []api.Point, p api.Point) []api.Point {
	var out []api.Point
	for _, peer := range l {
		if peer != p {
			out = append(out, peer)
		}
	}
	out = append(out, p)
	return slices.Clone(out[max(0, len(out)-api.MaxPeers):])
}

// Allows tells whether one who speaks to l lets p in, by a filter.
func Allows(filter int, l []api.Point, p api.Point) bool {
	switch filter {
	case api.FilterAddr:
		return slices.ContainsFunc(l, func(peer api.Point) bool { return peer.Ip == p.Ip })
	case api.FilterPort:
		return slices.Contains(l, p)
	}
	return true
}
