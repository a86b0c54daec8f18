package lab

import (
	"slices"
	"strconv"
	"strings"

	"salvor/api"
)

// action is what is done on a bench with what stands behind a command's word. It is the answer.
type action func(*bench, args) string

// command is what a line's first word says: what stands behind it (the last of that once or more often, if it is many), and what is done.
type command struct {
	needs []need
	many  bool
	do    action
}

// task is a command whose words are understood.
type task struct {
	do   action
	with args
}

// args is what a command's words say, each kind in the words' order.
type args struct {
	texts   []string
	numbers []int
}

// need is what a word has to say; it goes to the args.
type need func(*args, string)

// giveUp ends the reading of a script: the line may not be.
func giveUp() { panic(api.ErrLabLine) }

// tasksOf is the task of a line; none, if it says nothing.
func tasksOf(line string, table map[string]command) []task {
	if strings.ContainsFunc(line, isBarred) {
		giveUp()
	}
	words := strings.Fields(line) // of all at which it parts a line, a blank alone is left
	if len(words) == 0 || strings.HasPrefix(words[0], "#") {
		return nil
	}
	c, known := table[words[0]]
	if !known {
		giveUp()
	}
	return []task{{c.do, c.argsOf(words[1:])}}
}

// isBarred tells of a character whether it may stand in no line. (So does each byte of one that is no ASCII.)
func isBarred(r rune) bool { return r < ' ' || r > '~' }

func (c command) argsOf(words []string) args {
	if len(words) < len(c.needs) || len(words) > len(c.needs) && !c.many {
		giveUp()
	}
	var a args
	for i, word := range words {
		c.needs[min(i, len(c.needs)-1)](&a, word)
	}
	return a
}

// number is 1 to 9 digits, so that it fits into every int.
func (a *args) number(word string) {
	if len(word) > 9 || len(word) > 1 && word[0] == '0' || strings.Trim(word, "0123456789") != "" {
		giveUp()
	}
	n, _ := strconv.Atoi(word)
	a.numbers = append(a.numbers, n)
}

func (a *args) byte(word string) { a.numbers = append(a.numbers, int(byteOf(word))) }

func (a *args) text(word string) { a.texts = append(a.texts, textOf(word)) }

// oneOf needs one of some words: which one.
func oneOf(words ...string) need {
	return func(a *args, word string) {
		at := slices.Index(words, word)
		if at < 0 {
			giveUp()
		}
		a.numbers = append(a.numbers, at)
	}
}
