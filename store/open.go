package store

import (
	"maps"
	"slices"

	"salvor/api"
	"salvor/fast"
	"salvor/keydir"
	"salvor/mend"
	"salvor/plan"
	"salvor/segment"
	"salvor/vdisk"
)

func mayBeConfig(c api.Config) bool {
	return api.MinLimit <= c.Limit && c.Limit <= api.MaxLimit && 0 <= c.Every && c.Every <= api.MaxEvery
}

// open salvages a disk, has all that is told of it last, and makes a store.
func open(d *vdisk.Disk, c api.Config) (*Store, api.Report, api.Errno) {
	if d == nil || !mayBeConfig(c) {
		return nil, api.Report{}, api.ErrStoreArg
	}
	salvage := mend.Deep
	if c.Fast {
		salvage = fast.Salvage
	}
	dir, report, errno := salvage(d)
	if errno == api.OK {
		errno = syncSegments(d, report.Files)
	}
	if errno != api.OK {
		return nil, api.Report{}, errno
	}
	s := &Store{disk: d, config: c, last: report.Top, open: true}
	s.held = held{Writer: s.newWriter(), Dir: dir}
	return s, report, api.OK
}

// syncSegments syncs those segments of which not all lasts, so that nothing of them lasts later than what is put behind it. The report of a salvage has an account of each segment, by names.
func syncSegments(d *vdisk.Disk, accounts []api.Account) api.Errno {
	lasting := make(map[string]int)
	for _, file := range d.Lasting() {
		lasting[file.Name] = len(file.Data)
	}
	for _, a := range accounts {
		size, _ := d.Size(a.Name)
		if a.Class != api.Segment || lasting[a.Name] == size {
			continue
		}
		if errno := d.Sync(a.Name); errno != api.OK {
			return errno
		}
	}
	return api.OK
}

// newWriter is one that has no segment yet.
func (s *Store) newWriter() *segment.Writer {
	w, _ := segment.Start(s.disk, s.config.Limit, s.config.Every) // not refused: the bounds are the same
	return w
}

// dirOf is the key directory of some files: of each key what counts, where it stands first; nothing else would ever be told of it.
func dirOf(files []api.File) *keydir.Dir {
	places := make(map[api.Record]api.Place)
	for place, r := range plan.View(files...) {
		if _, copied := places[r]; !copied {
			places[r] = place
		}
	}
	dir := keydir.New()
	for _, r := range keydir.Fold(slices.Collect(maps.Keys(places))...) {
		dir.Add(seen(r, places[r])) // not refused, as it came out of a frame
	}
	return dir
}

// seen is a record that stands at a place. Its body is not wanted: no other one of its key has its number.
func seen(r api.Record, p api.Place) api.Seen {
	return api.Seen{Key: r.Key, LSN: r.LSN, Kind: r.Kind, Place: p}
}
