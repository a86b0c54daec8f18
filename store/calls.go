package store

import (
	"slices"

	"salvor/api"
	"salvor/merge"
	"salvor/segment"
)

// What each call does stands here; its face has the lock, and makes an error of what is told.

func isKey(key string) bool { return 1 <= len(key) && len(key) <= api.MaxKey }

func (s *Store) put(key, value string) api.Errno {
	switch {
	case !s.open:
		return api.ErrStoreClosed
	case !isKey(key):
		return api.ErrStoreKey
	case len(value) > api.MaxValue:
		return api.ErrStoreValue
	case s.broken:
		return api.ErrStoreBroken
	case s.left() == 0:
		return api.ErrStoreSpent
	}
	return s.write(api.Record{Kind: api.Put, Key: key, Value: value})
}

// left is how many numbers are left for further records.
func (s *Store) left() uint64 { return api.MaxLSN - s.last }

// write writes a record with the next number; it counts from then on. With an error the number is used again.
func (s *Store) write(r api.Record) api.Errno {
	r.LSN = s.last + 1
	place, errno := s.held.Put(r)
	if errno != api.OK {
		return errno
	}
	s.last = r.LSN
	return s.held.Add(seen(r, place))
}

func (s *Store) delete(keys []string) api.Errno {
	isNone := func(key string) bool { return !isKey(key) }
	switch {
	case !s.open:
		return api.ErrStoreClosed
	case slices.ContainsFunc(keys, isNone):
		return api.ErrStoreKey
	case s.broken:
		return api.ErrStoreBroken
	}
	doomed := s.having(keys)
	if uint64(len(doomed)) > s.left() {
		return api.ErrStoreSpent
	}
	for _, key := range doomed {
		if errno := s.write(api.Record{Kind: api.Delete, Key: key}); errno != api.OK {
			return errno
		}
	}
	return api.OK
}

// having are those of some keys that have values, each once, in the order in which they come first.
func (s *Store) having(keys []string) []string {
	var some []string
	met := make(map[string]struct{})
	for _, key := range keys {
		_, again := met[key]
		met[key] = struct{}{}
		if _, errno := s.held.Get(key); errno == api.OK && !again {
			some = append(some, key)
		}
	}
	return some
}

func (s *Store) get(key string) (string, bool, api.Errno) {
	switch {
	case !s.open:
		return "", false, api.ErrStoreClosed
	case !isKey(key):
		return "", false, api.ErrStoreKey
	}
	told, errno := s.held.Get(key)
	if errno != api.OK {
		return "", false, api.OK
	}
	r, errno := segment.Read(s.disk, told.Place)
	if errno != api.OK && errno != api.ErrDiskNone && errno != api.ErrSegmentNone {
		return "", false, errno
	}
	if errno != api.OK || r.Kind != api.Put || r.Key != key || r.LSN != told.LSN { // somebody else has been at the file
		return "", false, api.ErrStoreBad
	}
	return r.Value, true, api.OK
}

// barred tells why nothing can be written, whatever it is.
func (s *Store) barred() api.Errno {
	switch {
	case !s.open:
		return api.ErrStoreClosed
	case s.broken:
		return api.ErrStoreBroken
	}
	return api.OK
}

func (s *Store) sync() api.Errno {
	if errno := s.barred(); errno != api.OK {
		return errno
	}
	return s.held.Sync()
}

func (s *Store) merge() api.Errno {
	if errno := s.barred(); errno != api.OK {
		return errno
	}
	errno := s.held.Close()
	if errno == api.OK {
		errno = merge.Run(s.disk, s.config.Limit)
		s.held.Dir = dirOf(s.disk.Files()) // also behind an error: part of it may have been done
		s.last = max(s.last, s.held.Top()) // a hint file that was believed may have told less
	}
	s.held.Writer = s.newWriter()
	return errno
}

func (s *Store) close() api.Errno {
	if !s.open {
		return api.ErrStoreClosed
	}
	errno := api.OK
	if !s.broken {
		errno = s.held.Close()
	}
	s.open = false
	s.disk, s.held = nil, held{} // nothing that a closed store tells hangs on them
	return errno
}
