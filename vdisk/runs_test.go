package vdisk_test

import (
	"testing"

	"salvor/api"
)

func TestAnyRuns(t *testing.T) {
	eachRun(func(capacity int, files []api.File, run []call) { checkRun(t, capacity, files, run) })
}

func TestALongRun(t *testing.T) {
	r := source()
	for range 5 {
		capacity, files, run := anyRun(r, 3000)
		checkRun(t, capacity, files, run)
	}
}

// shortCalls are such that two or three of them, in whatever order, have to do with one another.
var shortCalls = []call{
	{what: "Create", name: "a"}, {what: "Create", name: "c"}, {what: "Create"},
	{what: "Append", name: "a", data: "xy"}, {what: "Append", name: "b", data: "z"}, {what: "Append", name: "a", data: "more than it has"},
	{what: "Sync", name: "a"},
	{what: "Rename", name: "a", to: "b"}, {what: "Rename", name: "b", to: "a"}, {what: "Rename", name: "a", to: "a"}, {what: "Rename", name: "a", to: "c"},
	{what: "Remove", name: "a"}, {what: "Remove", name: "b"},
	{what: "Truncate", name: "a", a: 0}, {what: "Truncate", name: "a", a: 4}, {what: "Truncate", name: "b", a: 1},
	{what: "Read", name: "a", a: 1, b: 9}, {what: "Read", name: "b", a: 0, b: 1},
	{what: "FailAt", a: 0}, {what: "FailAt", a: 1}, {what: "FailAt", a: 2}, {what: "FailAt", a: -1},
	{what: "BreakAt", a: 0}, {what: "BreakAt", a: 1}, {what: "BreakAt", a: 1, done: true}, {what: "BreakAt", a: 2, done: true}, {what: "BreakAt", a: -1, done: true},
	{what: "Crash", a: 0}, {what: "Crash", a: 1}, {what: "Crash", a: -1},
}

func TestEveryShortRun(t *testing.T) {
	files := []api.File{file("b", "bb"), file("a", "aaa")}
	for _, c := range shortCalls {
		for _, d := range shortCalls {
			for _, e := range shortCalls {
				checkRun(t, 8, files, []call{c, d, e})
			}
		}
	}
}

// What breaks off, fails or is lost is looked at behind every act of a run, whichever one it is.
func TestEveryPlaceOfARun(t *testing.T) {
	run := []call{
		{what: "Create", name: "a"}, {what: "Append", name: "a", data: "abc"}, {what: "Sync", name: "a"}, {what: "Append", name: "a", data: "de"},
		{what: "Create", name: "a"}, {what: "Rename", name: "a", to: "b"}, {what: "Read", name: "b", a: 2, b: 9}, {what: "Append", name: "b", data: "fgh"},
		{what: "Truncate", name: "b", a: 4}, {what: "Create", name: "a"}, {what: "Append", name: "a", data: "x"}, {what: "Rename", name: "a", to: "b"},
		{what: "Sync", name: "b"}, {what: "Append", name: "c", data: "x"}, {what: "Truncate", name: "b", a: 0}, {what: "Remove", name: "b"},
	}
	for n := range len(run) + 2 {
		for keep := range 5 {
			for _, done := range []bool{false, true} {
				broken := append([]call{{what: "BreakAt", a: n, done: done}}, run...)
				checkRun(t, 20, nil, append(broken, call{what: "Crash", a: keep - 1}, call{what: "Create", name: "a"}, call{what: "Append", name: "a", data: "y"}))
				failed := append([]call{{what: "FailAt", a: n}}, broken...)
				checkRun(t, 20, nil, append(failed, call{what: "Crash", a: keep - 1}))
			}
			failed := append([]call{{what: "FailAt", a: n}}, run...)
			checkRun(t, 20, nil, append(failed, call{what: "Crash", a: keep - 1}))
		}
	}
}
