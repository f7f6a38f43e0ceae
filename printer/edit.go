package printer

import "gangsaw/api"

// maxRows is the greatest number of rows that are compared.
const maxRows = 500

// The kinds of edits.
const (
	Keep   = 0
	Delete = 1
	Insert = 2
)

// Edit keeps or deletes a row of the old source, or inserts one of the new source.
type Edit struct {
	Kind int
	Text string
}

// Diff returns the shortest edits that lead from rows to other rows.
func Diff(old, now []string) ([]Edit, api.Errno) {
	if len(old) > maxRows || len(now) > maxRows {
		return nil, api.ErrTooMany
	}
	fewest := count(old, now)
	var edits []Edit
	i, k := 0, 0
	for i < len(old) || k < len(now) {
		switch {
		case i < len(old) && k < len(now) && old[i] == now[k]:
			edits = append(edits, Edit{Keep, old[i]})
			i, k = i+1, k+1
		case i < len(old) && fewest[i][k] == fewest[i+1][k]+1:
			edits = append(edits, Edit{Delete, old[i]})
			i++
		default:
			edits = append(edits, Edit{Insert, now[k]})
			k++
		}
	}
	return edits, api.OK
}

// count returns how many rows must be deleted and inserted at least from the old rows i on to the new rows k on, for all i and k.
func count(old, now []string) [][]int {
	fewest := make([][]int, len(old)+1)
	for i := len(old); i >= 0; i-- {
		fewest[i] = make([]int, len(now)+1)
		for k := len(now); k >= 0; k-- {
			switch {
			case i == len(old):
				fewest[i][k] = len(now) - k
			case k == len(now):
				fewest[i][k] = len(old) - i
			case old[i] == now[k]:
				fewest[i][k] = fewest[i+1][k+1]
			default:
				fewest[i][k] = 1 + min(fewest[i+1][k], fewest[i][k+1])
			}
		}
	}
	return fewest
}

// Apply returns the rows that edits make of rows.
func Apply(old []string, edits []Edit) ([]string, api.Errno) {
	for _, edit := range edits {
		if edit.Kind != Keep && edit.Kind != Delete && edit.Kind != Insert {
			return nil, api.ErrInvalid
		}
	}
	var now []string
	left := old
	for _, edit := range edits {
		if edit.Kind != Insert {
			if len(left) == 0 || left[0] != edit.Text {
				return nil, api.ErrConflict
			}
			left = left[1:]
		}
		if edit.Kind != Delete {
			now = append(now, edit.Text)
		}
	}
	if len(left) > 0 {
		return nil, api.ErrConflict
	}
	return now, api.OK
}

// Invert returns the edits that lead back.
func Invert(edits []Edit) []Edit {
	var inverted []Edit
	for _, edit := range edits {
		switch edit.Kind {
		case Delete:
			edit.Kind = Insert
		case Insert:
			edit.Kind = Delete
		}
		inverted = append(inverted, edit)
	}
	return inverted
}
