package store

import (
	"slices"

	"flitting/api"
	"flitting/crown"
	"flitting/geo"
	"flitting/loop"
	"flitting/page"
	"flitting/sector"
	"flitting/trap"
)

// crowns is how many sectors have a crown.
const crowns = 2

// write is a sector, and the bytes that it is to have.
type write struct {
	at int
	b  string
}

// lay writes in order, and lets all of it last.
func lay(d *sector.Disk, l ...write) error {
	for _, w := range l {
		if err := trap.New(d.Write(w.at, w.b), w.at); err != nil {
			return trap.In(err, "write")
		}
	}
	return trap.In(trap.New(d.Barrier(), 0), "barrier")
}

// format lays all that a disk needs. The crowns go first and come last: what lies between counts only when it is whole.
func format(d *sector.Disk, g api.Geo) error {
	if err := lay(d, zerosOf(0, crowns)...); err != nil {
		return trap.In(err, "format")
	}
	elder := api.Super{Seq: 0, Epoch: 1, Half: g.Half, Log: g.Log}
	newer := elder
	newer.Seq = 1
	cells := make([]int, geo.Pages(g)*api.PerPage)
	cells[api.FreeAt] = api.Control
	if err := lay(d, slices.Concat(pagesOf(newer, cells), emptyOf(elder))...); err != nil {
		return trap.In(err, "format")
	}
	return trap.In(lay(d, crownOf(elder), crownOf(newer)), "format")
}

// open makes a store of what lasts, and a checkpoint, so that no entry that was left counts again.
func open(d *sector.Disk) (*Store, error) {
	if !d.On() {
		_, errno := d.Read(0) // it tells whether there is no disk, or no power
		return nil, trap.In(trap.New(errno, 0), "open")
	}
	super, err := superOf(d)
	if err != nil {
		return nil, trap.In(err, "open")
	}
	s, err := storeOf(d, super)
	if err != nil {
		return nil, trap.In(err, "open")
	}
	if err := s.mark(); err != nil {
		return nil, trap.In(err, "open")
	}
	return s, nil
}

// superOf tells the crown that counts. Whatever may not be falls through to one case.
func superOf(d *sector.Disk) (api.Super, error) {
	a, _ := d.Read(0) // a sector that is not there has no crown
	b, _ := d.Read(1)
	first, isFirst := crown.Get(a)
	second, isSecond := crown.Get(b)
	newer, _, _ := crown.Newer(a, b)
	switch {
	case !isFirst || !isSecond:
		fallthrough
	case crown.Place(first) != 0 || crown.Place(second) != 1:
		fallthrough
	case geoOf(first) != geoOf(second):
		fallthrough
	case first.Seq-second.Seq != 1 && second.Seq-first.Seq != 1:
		fallthrough
	case d.Len() < geo.Sectors(geoOf(newer)):
		return api.Super{}, trap.In(trap.New(api.ErrCorrupt, newer.Seq), "crown")
	}
	return newer, nil
}

// storeOf is what a crown says was committed: its pages, and the changes of its log.
func storeOf(d *sector.Disk, super api.Super) (*Store, error) {
	g := geoOf(super)
	cells, err := cellsOf(d, super)
	if err != nil {
		return nil, trap.In(err, "pages")
	}
	changes, next, errno := loop.Scan(d, geo.LogAt(g), g.Log, super.Head, super.Epoch)
	if errno != api.OK {
		return nil, trap.In(trap.New(errno, super.Head), "log")
	}
	for _, c := range changes {
		if c.Cell < geo.Cells(g) {
			cells[c.Cell] = c.Value
		}
	}
	log := loop.New(d, geo.LogAt(g), g.Log, super.Head, next, super.Epoch)
	return &Store{disk: d, super: super, log: log, committed: cells, working: slices.Clone(cells)}, nil
}

// cellsOf are the cells of a crown's pages.
func cellsOf(d *sector.Disk, super api.Super) ([]int, error) {
	g := geoOf(super)
	var cells []int
	for no := range geo.Pages(g) {
		l, err := read(d, geo.PageAt(g, no, slotOf(super)), page.Sectors)
		if err != nil {
			return nil, trap.In(err, "read")
		}
		c, is := page.At(no, super.Seq, l)
		if !is {
			return nil, trap.In(trap.New(api.ErrCorrupt, no), "page")
		}
		cells = append(cells, c...)
	}
	return cells, nil
}

// read tells n sectors from at on.
func read(d *sector.Disk, at, n int) ([]string, error) {
	l := make([]string, n)
	for i := range l {
		b, errno := d.Read(at + i)
		if errno != api.OK {
			return nil, trap.New(errno, at+i)
		}
		l[i] = b
	}
	return l, nil
}

// geoOf is what a crown says of how large all is.
func geoOf(super api.Super) api.Geo { return api.Geo{Half: super.Half, Log: super.Log} }

// slotOf is where a crown's pages lie: not where those of the one ahead of it do.
func slotOf(super api.Super) int { return super.Seq & 1 }

// crownOf is a crown in its place.
func crownOf(super api.Super) write {
	b, _ := crown.Put(super) // who calls it knows that it may be
	return write{at: crown.Place(super), b: b}
}

// pagesOf are the cells of all pages as a crown asks for them.
func pagesOf(super api.Super, cells []int) []write {
	g := geoOf(super)
	var l []write
	for no := range geo.Pages(g) {
		sectors, _ := page.Put(no, super.Seq, cells[no*api.PerPage:(no+1)*api.PerPage]) // cells have what may be
		for i, b := range sectors {
			l = append(l, write{at: geo.PageAt(g, no, slotOf(super)) + i, b: b})
		}
	}
	return l
}

// emptyOf are zeros in place of a crown's pages, and of the log.
func emptyOf(super api.Super) []write {
	g := geoOf(super)
	var l []write
	for no := range geo.Pages(g) {
		l = append(l, zerosOf(geo.PageAt(g, no, slotOf(super)), page.Sectors)...)
	}
	return append(l, zerosOf(geo.LogAt(g), g.Log)...)
}

// zerosOf are n sectors of zeros from at on.
func zerosOf(at, n int) []write {
	l := make([]write, n)
	for i := range l {
		l[i] = write{at: at + i, b: string(make([]byte, api.Sector))}
	}
	return l
}
