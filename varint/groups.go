package varint

import (
	"math/bits"

	"tscodec/api"
)

const (
	groupBits = 7
	more      = 1 << groupBits // is added to a group if another one follows
)

// groups returns the number of groups of a number with as many bits; the number 0 has one, too.
func groups(width int) int {
	return max(1, (width+groupBits-1)/groupBits)
}

// appendGroups returns the bytes of b followed by as many groups of next, as one encoding.
func appendGroups(b []byte, count int, next func() byte) []byte {
	// The memory behind b may be in use, so the result has its own even if there is room.
	out := make([]byte, len(b), len(b)+count)
	copy(out, b)
	for range count - 1 {
		out = append(out, next()+more)
	}
	return append(out, next())
}

// behind returns the index behind the encoding that begins at the index at of b, of a number with at most as many bits.
func behind(b []byte, at, width int) (int, api.Errno) {
	if at < 0 || at > len(b) {
		return 0, api.ErrRange
	}
	most := groups(width)
	for i, group := range b[at:min(at+most, len(b))] {
		if group >= more {
			continue
		}
		if group == 0 && i > 0 || i*groupBits+bits.Len8(group) > width {
			return 0, api.ErrForm
		}
		return at + i + 1, api.OK
	}
	if len(b)-at < most {
		return 0, api.ErrTruncated
	}
	return 0, api.ErrForm
}
