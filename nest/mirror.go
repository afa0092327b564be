package nest

import (
	"pantoscope/api"
	"pantoscope/outline"
)

func mirrorBoard(b api.Board) api.Board {
	mirrored := api.Board{W: b.W, H: b.H, Gap: b.Gap}
	for _, f := range b.Faults {
		f.X = b.W - f.X - f.W
		mirrored.Faults = append(mirrored.Faults, f)
	}
	return mirrored
}

func mirrorParts(parts []api.Part) []api.Part {
	var mirrored []api.Part
	for _, p := range parts {
		o, _ := outline.Mirror(p.O)
		mirrored = append(mirrored, api.Part{O: o, Turns: p.Turns})
	}
	return mirrored
}

func mirrorPlaces(b api.Board, l []api.Place) []api.Place {
	var mirrored []api.Place
	for _, p := range l {
		p.X = b.W - p.X
		mirrored = append(mirrored, p)
	}
	return mirrored
}
