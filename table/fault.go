package table

import (
	"errors"
	"slices"
	"strconv"

	"tenet/api"
)

// fault is the error of a node: a code, and the path of the node.
type fault struct {
	code api.Errno
	path []int
}

// faultAt returns a fault with a path of its own: those who walk go on with theirs.
func faultAt(code api.Errno, path []int) error {
	return fault{code, slices.Clone(path)}
}

func (f fault) Error() string {
	return "error " + strconv.Itoa(int(f.code)) + " at a node with a path of " + strconv.Itoa(len(f.path)) + " places"
}

// faultOf returns an error as api has it.
func faultOf(err error) api.Fault {
	var f fault
	if errors.As(err, &f) {
		return api.Fault{Code: f.code, Path: f.path}
	}
	return api.Fault{}
}

// codeOf returns the code of an error, api.OK if there is none.
func codeOf(err error) api.Errno {
	return faultOf(err).Code
}
