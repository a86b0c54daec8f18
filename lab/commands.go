package lab

import (
	"strconv"

	"salvor/store"
)

// commands are all that there are, by their words.
func commands() map[string]command {
	text, number, octet := (*args).text, (*args).number, (*args).byte
	return map[string]command{
		"disk":  {needs: []need{number}, do: (*bench).makeDisk},
		"open":  {needs: []need{oneOf("deep", "fast"), number, number}, do: (*bench).open},
		"fail":  {needs: []need{number}, do: (*bench).fail},
		"break": {needs: []need{number, oneOf("before", "behind")}, do: (*bench).breakOff},
		"crash": {needs: []need{number}, do: (*bench).crash},
		"lay":   {needs: []need{text, text}, do: (*bench).lay},
		"flip":  {needs: []need{text, number, octet}, do: (*bench).flip},
		"cut":   {needs: []need{text, number}, do: (*bench).cut},
		"lose":  {needs: []need{text}, do: (*bench).lose},
		"copy":  {needs: []need{text, text}, do: (*bench).copy},
		"move":  {needs: []need{text, text}, do: (*bench).move},
		"files": {do: (*bench).files},
		"read":  {needs: []need{text}, do: (*bench).read},
		"used":  {do: (*bench).used},
		"put":   {needs: []need{text, text}, do: asked(put)},
		"del":   {needs: []need{text}, many: true, do: asked(del)},
		"get":   {needs: []need{text}, do: asked(get)},
		"sync":  {do: asked(sync)},
		"merge": {do: asked(merge)},
		"close": {do: asked(shut)},
		"keys":  {do: asked(keys)},
		"all":   {do: asked(all)},
		"last":  {do: asked(last)},
	}
}

// asked is what a store does, where there is one.
func asked(do func(*store.Store, args) string) action {
	return func(b *bench, a args) string {
		if b.store == nil {
			return "none"
		}
		return do(b.store, a)
	}
}

func put(s *store.Store, a args) string { return doneOrFailed(s.Put(a.texts[0], a.texts[1])) }

func del(s *store.Store, a args) string { return doneOrFailed(s.Delete(a.texts...)) }

func get(s *store.Store, a args) string {
	value, has, err := s.Get(a.texts[0])
	switch {
	case err != nil:
		return doneOrFailed(err)
	case !has:
		return "nothing"
	}
	return lineOf("=", wordOf(value))
}

func sync(s *store.Store, _ args) string { return doneOrFailed(s.Sync()) }

func merge(s *store.Store, _ args) string { return doneOrFailed(s.Merge()) }

func shut(s *store.Store, _ args) string { return doneOrFailed(s.Close()) }

func keys(s *store.Store, _ args) string {
	words := []string{"keys"}
	for _, key := range s.Keys() {
		words = append(words, wordOf(key))
	}
	return lineOf(words...)
}

func all(s *store.Store, _ args) string {
	words := []string{"all"}
	for key, value := range s.All() {
		words = append(words, wordOf(key), wordOf(value))
	}
	return lineOf(words...)
}

func last(s *store.Store, _ args) string {
	return lineOf("last", strconv.FormatUint(s.Last(), 10))
}
