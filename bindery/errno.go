package bindery

import (
	"errors"

	"bindery/api"
	"bindery/stream"
)

// streamErrno finds out what package stream told.
func streamErrno(err error) api.Errno {
	var fault *stream.Fault
	switch {
	case err == nil:
		return api.OK
	case !errors.As(err, &fault):
		// Only what is out of bounds has no place in a stream.
		return api.ErrMany
	case errors.Is(fault, stream.ErrLimit):
		return api.ErrLimit
	}
	return api.ErrStream
}
