package ledger_test

import (
	"bytes"
	"math/rand/v2"
	"slices"
	"strings"
	"testing"

	"pantoscope/api"
	"pantoscope/ledger"
)

// P9.6: an encoding has 13 bytes for each entry of Sorted.
func TestEncode(t *testing.T) {
	for _, c := range []struct {
		b    []api.Entry
		want string
	}{
		{nil, ""},
		{book(invoice(7, 3, 1000)), "\x01\x00\x00\x00\x07\x00\x00\x00\x03\x00\x00\x03\xe8"},
		{book(back(1_000_000_000, api.MaxDay)), "\x04\x3b\x9a\xca\x00\x00\x01\x86\xa0\x00\x00\x00\x00"},
		{book(credit(0x01020304, 0x010203, 0x0a0b0c0d), pay(1, 0, 1_000_000_000)), "\x02\x00\x00\x00\x01\x00\x00\x00\x00\x3b\x9a\xca\x00\x03\x01\x02\x03\x04\x00\x01\x02\x03\x0a\x0b\x0c\x0d"},
	} {
		if got, e := ledger.Encode(c.b); string(got) != c.want || e != api.OK {
			t.Errorf("Encode(%v): %x, %d", c.b, got, e)
		}
		if got, e := ledger.Decode([]byte(c.want)); !slices.Equal(got, modelSorted(c.b)) || e != api.OK {
			t.Errorf("Decode(%x): %v, %d", c.want, got, e)
		}
	}
}

// P9.6: bytes that Encode does not return have no book.
func TestDecodeErrors(t *testing.T) {
	first, second := modelEncoding(book(invoice(7, 3, 1000))), modelEncoding(book(invoice(8, 3, 1000)))
	list := [][]byte{
		{0}, {1}, first[:12], append(first[:13:13], 0), append(first[:13:13], second[:12]...), make([]byte, 13), make([]byte, 26),
		slices.Concat(second, first), slices.Concat(first, first), slices.Concat(first, modelEncoding(book(invoice(7, 3, 999)))), slices.Concat(modelEncoding(book(pay(1, 1, 1))), first),
		modelEncoding(many(201)), bytes.Repeat(first, 200), bytes.Repeat(first, 100_000),
		[]byte("\x01\x80\x00\x00\x07\x00\x00\x00\x03\x00\x00\x03\xe8"), []byte("\x01\xff\xff\xff\xff\x00\x00\x00\x03\x00\x00\x03\xe8"), []byte("\x01\x00\x00\x00\x07\xff\xff\xff\xff\x00\x00\x03\xe8"), []byte("\x01\x00\x00\x00\x07\x00\x00\x00\x03\xff\xff\xff\xff"),
		[]byte(strings.Repeat("\xff", 13)), []byte("\x81\x00\x00\x00\x07\x00\x00\x00\x03\x00\x00\x03\xe8"),
	}
	for _, e := range badEntries() {
		if isByte := e.Kind == int(byte(e.Kind)); isByte && fits(e.Ref) && fits(e.Day) && fits(e.Cents) {
			list = append(list, modelEncoding(book(e)), slices.Concat(first, modelEncoding(book(e))))
		}
	}
	for _, b := range list {
		if r := results(ledger.Decode(b)); !isError(r, api.ErrEntry) {
			t.Errorf("Decode(%.60x): %v", b, r)
		}
	}
}

// fits tells whether a number fits into four bytes.
func fits(n int) bool { return n == int(uint32(n)) }

// P9.12, P9.6: Decode of Encode is Sorted, and Encode of Decode is what was decoded.
func TestDecodeOfEncode(t *testing.T) {
	r := rand.New(rand.NewPCG(9, 10))
	decoded := 0
	for range 1500 {
		b := randomBook(r, pick(r, 3, 40, 300))
		b = b[:min(len(b), 200)]
		code := must[[]byte](t)(ledger.Encode(b))
		if !bytes.Equal(code, modelEncoding(b)) {
			t.Fatalf("Encode(%v): %x", b, code)
		}
		if got := must[[]api.Entry](t)(ledger.Decode(code)); !slices.Equal(got, modelSorted(b)) {
			t.Fatalf("Decode(%x): %v", code, got)
		}
		if len(code) == 0 {
			continue
		}
		code[r.IntN(len(code))] ^= 1 << r.IntN(8)
		got, e := ledger.Decode(code)
		if e == api.OK {
			decoded++
		}
		if e == api.OK && !bytes.Equal(must[[]byte](t)(ledger.Encode(got)), code) || e != api.OK && !isError(results(got, e), api.ErrEntry) {
			t.Fatalf("Decode(%x): %v, %d", code, got, e)
		}
	}
	if decoded < 100 || decoded > 1300 {
		t.Errorf("%d encodings with another bit are one", decoded)
	}
}

// P9.6: a full book has 2600 bytes.
func TestEncodeFullBook(t *testing.T) {
	code := must[[]byte](t)(ledger.Encode(many(200)))
	if got, e := ledger.Decode(code); len(code) != 2600 || !slices.Equal(got, modelSorted(many(200))) || e != api.OK {
		t.Errorf("%d bytes: %v, %d", len(code), got, e)
	}
}
