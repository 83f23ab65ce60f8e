package wire

import (
	"selvage/api"
	"selvage/value"
)

// The places of a record that a field may stand in: within no field that is
// known, within one that should be a number, or within one of these structs.
const (
	nowhere = iota
	number
	packet
	lie
	tieId
	head
	tie
	edge
	reach
)

// places tells for each struct, by the Ids of its fields, what a field is: the
// place that its own fields stand in. All others are nowhere.
var places = [reach + 1][13]int{
	packet: {1: number, 2: lie, 3: tie, 4: tieId, 5: tieId, 6: head},
	lie: {1: number, 2: number, 3: number, 4: number, 5: number, 6: number,
		7: number, 8: number, 9: number, 10: number, 11: number, 12: number},
	tieId: {1: number, 2: number, 3: number, 4: number},
	head:  {1: tieId, 2: number, 3: number},
	tie:   {1: head, 2: number, 3: number, 4: edge, 5: reach},
	edge:  {1: number, 2: number, 3: number},
	reach: {1: number, 2: number, 3: number},
}

// Known returns a record without the fields that the schema does not list for
// their place.
func Known(l []api.Item) []api.Item {
	if !value.Right(l) {
		return nil
	}
	var kept []api.Item
	around := []int{packet}
	for _, x := range l {
		last := len(around) - 1
		place := inner(around[last], x.Id)
		switch x.Kind {
		case api.ItemOpen:
			around = append(around, place)
		case api.ItemClose:
			place = around[last]
			around = around[:last]
		}
		if place != nowhere {
			x.B = append([]byte(nil), x.B...)
			kept = append(kept, x)
		}
	}
	return kept
}

// inner returns what a field of that Id is in that place. What stands within a
// field that should be a number is not examined.
func inner(place, id int) int {
	if place == number {
		return number
	}
	if id >= len(places[place]) {
		return nowhere
	}
	return places[place][id]
}
