package ledger

import (
	"slices"

	"pantoscope/api"
)

const (
	numberBytes = 4
	entryBytes  = 1 + 3*numberBytes
)

// withNumber is a list of bytes with a number behind it, the most significant byte first.
func withNumber(bytes []byte, n int) []byte {
	return append(bytes, byte(n>>24), byte(n>>16), byte(n>>8), byte(n))
}

// numberAt is the number that begins at a place of a list of bytes.
func numberAt(bytes []byte, at int) int {
	n := 0
	for _, b := range bytes[at : at+numberBytes] {
		n = n<<8 | int(b)
	}
	return n
}

func encoded(b []api.Entry) []byte {
	var bytes []byte
	for _, e := range sorted(byName(b)) {
		bytes = append(bytes, byte(e.Kind))
		bytes = withNumber(bytes, e.Ref)
		bytes = withNumber(bytes, e.Day)
		bytes = withNumber(bytes, e.Cents)
	}
	return bytes
}

// decoded is the book with this encoding, if there is one.
func decoded(bytes []byte) ([]api.Entry, bool) {
	if len(bytes)%entryBytes != 0 || len(bytes) > api.MaxEntries*entryBytes {
		return nil, false
	}
	var b []api.Entry
	for piece := range slices.Chunk(bytes, entryBytes) {
		b = append(b, decodedEntry(piece))
	}
	return b, Valid(b) && slices.IsSortedFunc(b, inOrder)
}

func decodedEntry(bytes []byte) api.Entry {
	return api.Entry{
		Kind:  int(bytes[0]),
		Ref:   numberAt(bytes, 1),
		Day:   numberAt(bytes, 1+numberBytes),
		Cents: numberAt(bytes, 1+2*numberBytes),
	}
}
