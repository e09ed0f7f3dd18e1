package samples

import (
	"horarium/api"
	"horarium/disk"
)

// Sectors is what each sector of d says; nothing if one of them can't be read.
func Sectors(d *disk.Disk) []string {
	var l []string
	for at := range d.Len() {
		s, err := d.Read(at)
		if err != api.OK {
			return nil
		}
		l = append(l, s)
	}
	return l
}

// Takes tells whether call takes just n operations of d, by making the one behind them fail. A call that takes more of them fails itself.
func Takes(d *disk.Disk, n int, call func()) bool {
	d.Fail(n + 1)
	call()
	_, err := d.Read(0)
	d.Fail(0)
	return err != api.OK
}

// DrawnFates are n that look drawn by chance, of each kind, and torn in each place.
func DrawnFates(draw func(n int64) int64, n int) []api.Fate {
	l := make([]api.Fate, n)
	for i := range l {
		l[i] = api.Fate{Kind: int(draw(3)), At: int(draw(65))}
	}
	return l
}
