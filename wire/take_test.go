package wire

import (
	"bytes"
	"testing"

	"moothill/api"
)

// What is taken is cut off with no room behind it: what is put behind it doesn't run over what is left.
func TestTakeLeavesNoRoom(t *testing.T) {
	i := NewIn([]byte{1, 2, 3, 4, 5})
	for _, n := range []int{0, 2, 0, 1} {
		b := i.take(n)
		if len(b) != n || cap(b) != n {
			t.Error(n, b, cap(b))
		}
		_ = append(b, 0xee)
	}
	if !bytes.Equal(i.take(2), []byte{4, 5}) || i.End() != api.OK {
		t.Error(i.left, i.err)
	}
}
