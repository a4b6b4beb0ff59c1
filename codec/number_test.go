package codec

import (
	"bytes"
	"testing"
)

// A number's bytes are told by the chapter for any number; those of a chart that
// may be have two at most. So this asks inside, for more of them.

func TestNumbersOfMoreBytes(t *testing.T) {
	for _, one := range []struct {
		n int
		b []byte
	}{
		{0, []byte{0}}, {1, []byte{1}}, {127, []byte{127}},
		{128, []byte{128, 1}}, {129, []byte{129, 1}}, {300, []byte{172, 2}}, {16383, []byte{255, 127}},
		{16384, []byte{128, 128, 1}}, {16385, []byte{129, 128, 1}}, {1<<21 - 1, []byte{255, 255, 127}},
		{1 << 21, []byte{128, 128, 128, 1}}, {1<<28 - 1, []byte{255, 255, 255, 127}},
		{1 << 28, []byte{128, 128, 128, 128, 1}}, {1<<31 - 1, []byte{255, 255, 255, 255, 7}},
	} {
		if b := putNumber(nil, one.n); !bytes.Equal(b, one.b) {
			t.Errorf("%d as bytes: %v, want %v", one.n, b, one.b)
		}
		if n, size := numberOf(one.b); n != int64(one.n) || size != len(one.b) {
			t.Errorf("%v as a number: %d, of %d bytes, want %d", one.b, n, size, one.n)
		}
		r := reader{in: one.b}
		if n := r.number(); n != one.n || r.fault != none || r.at != len(one.b) {
			t.Errorf("%v read: %d, to byte %d, fault %d, want %d", one.b, n, r.at, r.fault, one.n)
		}
	}
	above := reader{in: []byte{128, 128, 128, 128, 8}} // 2^31
	if n := above.number(); n != 0 || above.fault == none || above.at != 0 {
		t.Errorf("2^31 read: %d, to byte %d, fault %d", n, above.at, above.fault)
	}
}
