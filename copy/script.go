package copy

import (
	"iter"
	"slices"
	"strings"

	"florilegium/api"
)

// A run is what one operation has typed.
type run struct {
	stamp  Stamp
	octets string
	erased []bool
}

// A piece is a part of a run, from one octet to before another one, between
// which nothing else was typed.
type piece struct {
	run      *run
	from, to int
}

// A script is a text, with what is erased in it.
type script struct {
	pieces row[piece]
	runs   map[Stamp]*run
}

// last gives the spot of the last octet of a piece.
func (p piece) last() Spot {
	return Spot{Stamp: p.run.stamp, At: p.to - 1}
}

// put types octets directly after a spot.
func (s *script) put(stamp Stamp, after Spot, octets string) {
	if s.runs == nil {
		s.runs = map[Stamp]*run{}
	}
	typed := &run{stamp: stamp, octets: octets, erased: make([]bool, len(octets))}
	s.runs[stamp] = typed
	whole := piece{run: typed, to: len(octets)}
	if after == (Spot{}) {
		s.pieces.putFirst(whole)
		return
	}
	s.cutAfter(after)
	s.pieces.putAfter(whole, func(p piece) bool { return p.last() == after })
}

// cutAfter makes the piece end with a spot in which it is: that is the first
// one of its run that ends behind it, as the pieces of a run keep their order.
func (s *script) cutAfter(spot Spot) {
	at := slices.IndexFunc(s.pieces, func(p piece) bool {
		return p.run.stamp == spot.Stamp && spot.At < p.to
	})
	if at < 0 || s.pieces[at].last() == spot {
		return
	}
	rest := s.pieces[at]
	rest.from = spot.At + 1
	s.pieces[at].to = rest.from
	s.pieces = slices.Insert(s.pieces, at+1, rest)
}

// erase erases the octets with some spots, if they are in the text.
func (s *script) erase(spots []Spot) {
	for _, spot := range spots {
		if typed := s.runs[spot.Stamp]; typed != nil && spot.At < len(typed.octets) {
			typed.erased[spot.At] = true
		}
	}
}

// shown goes through the octets that a base shows of the text.
func (s *script) shown() iter.Seq2[Spot, byte] {
	return func(yield func(Spot, byte) bool) {
		room := api.MaxString
		for _, p := range s.pieces {
			for at := p.from; at < p.to; at++ {
				if p.run.erased[at] {
					continue
				}
				if room == 0 || !yield(Spot{Stamp: p.run.stamp, At: at}, p.run.octets[at]) {
					return
				}
				room--
			}
		}
	}
}

func (s *script) text() string {
	var shown strings.Builder
	for _, octet := range s.shown() {
		shown.WriteByte(octet)
	}
	return shown.String()
}

func (s *script) spots() []Spot {
	var spots []Spot
	for spot := range s.shown() {
		spots = append(spots, spot)
	}
	return spots
}
