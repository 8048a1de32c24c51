package wire

import (
	"math"

	"parcelway/api"
)

// frameSize is how many bytes a frame of a command has: how many follow, the command, the sum.
const frameSize = 1 + cmdSize + wide

// Frame is s as a frame of a log.
func Frame(s string) (string, api.Errno) {
	if len(s) > math.MaxUint8 {
		return "", api.ErrMany
	}
	b := append([]byte{byte(len(s))}, s...)
	return string(append(b, lowFirst(sum(b))...)), api.OK
}

// sum is that of all bytes of b, each times its place.
func sum(b []byte) uint32 {
	var n uint32
	for i, x := range b {
		n += uint32(i+1) * uint32(x)
	}
	return n
}

// Log is frames of all commands of l. All of them are looked at, too many or not: that one can't be written is told first.
func Log(l []api.Cmd) (string, api.Errno) {
	var log []byte
	for _, c := range l {
		s, e := Write(c)
		if e != api.OK {
			return "", e
		}
		frame, _ := Frame(s)
		log = append(log, frame...)
	}
	if len(l) > api.MaxCmds {
		return "", api.ErrMany
	}
	return string(log), api.OK
}

// Replay are the commands of the frames that s begins with; and how many bytes these have.
func Replay(s string) ([]api.Cmd, int, api.Errno) {
	if len(s) > api.MaxBytes {
		return nil, 0, api.ErrMany
	}
	var l []api.Cmd
	whole := 0
reading:
	for len(l) < api.MaxCmds {
		switch c, e := first(s[whole:]); e {
		case api.OK:
			l = append(l, c)
			whole += frameSize
		default:
			break reading
		}
	}
	return l, whole, api.OK
}

// first is the command of the frame that s begins with; ErrForm, if it begins with none. Bytes are a frame just if Frame gives them.
func first(s string) (api.Cmd, api.Errno) {
	if len(s) < frameSize {
		return api.Cmd{}, api.ErrForm
	}
	text := s[1 : 1+cmdSize]
	if frame, _ := Frame(text); frame != s[:frameSize] {
		return api.Cmd{}, api.ErrForm
	}
	return Read(text)
}
