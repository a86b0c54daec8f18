package lab

import (
	"errors"
	"strconv"
	"strings"

	"salvor/api"
)

// lineOf is an answer of some words.
func lineOf(words ...string) string { return strings.Join(words, " ") }

// doneOr is the answer where there is nothing else to tell.
func doneOr(errno api.Errno) string {
	if errno == api.OK {
		return "ok"
	}
	return lineOf("error", strconv.Itoa(int(errno)))
}

// doneOrFailed is the same of an error of the store.
func doneOrFailed(err error) string {
	errno := api.OK // of no error
	errors.As(err, &errno)
	return doneOr(errno)
}
