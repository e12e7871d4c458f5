package vault_test

import (
	"errors"
	"fmt"
	"hash/crc32"
	"maps"
	"slices"
	"strings"
	"testing"

	"eddy/api"
	"eddy/equal"
	"eddy/pen"
)

// A past is what a store held: its complete shots, and which of them were sure.
type past struct {
	shots map[int]api.Shot
	sure  []int
}

func (s store) past() past {
	p := past{shots: map[int]api.Shot{}}
	for _, one := range (model{s.Disk}).complete() {
		p.shots[one.shot.Id] = one.shot
	}
	for _, one := range (model{s.Disk}).sure() {
		p.sure = append(p.sure, one.shot.Id)
	}
	return p
}

// A life is a store that vaults alone have changed, from no files on: what was ever handed to a Save that wrote something, and the newest that was saved with nil.
type life struct {
	store
	handed map[int]api.Shot
	newest int
}

func born(t *testing.T) *life { return &life{store: begun(t), handed: map[int]api.Shot{}} }

// again gives the same life over another disk that holds the same.
func (l *life) again(t *testing.T) *life {
	return &life{store: l.store.again(t), handed: maps.Clone(l.handed), newest: l.newest}
}

// saves lets a shot be saved, and asks what P12.11 says of that.
func (l *life) saves(t *testing.T, s api.Shot) error {
	t.Helper()
	l.handed[s.Id] = s
	older := func() []api.File {
		return slices.DeleteFunc(l.Files(), func(f api.File) bool { return strings.Contains(f.Name, fmt.Sprintf("-%04d", s.Id)) })
	}
	before := older()
	err := l.Save(s)
	if !sameFiles(older(), before) {
		t.Fatalf("P12.11: Save of %d changes files of older shots: %s becomes %s", s.Id, told(before), told(older()))
	}
	if err != nil {
		return err
	}
	l.newest = s.Id
	l.loads(t, "P12.11", s)
	if !slices.Contains(l.past().sure, s.Id) {
		t.Fatalf("P12.11: Save of %d answers nil, and the shot isn't sure: %s", s.Id, told(l.Files()))
	}
	return nil
}

// A deed is a call of the vault within which the machine may fall.
type deed struct {
	what  string
	saved api.Shot // Id 0: none
	kept  int      // how many sure shots it doesn't take away
	do    func(t *testing.T, l *life) error
}

func saving(s api.Shot) deed {
	return deed{fmt.Sprint("Save of ", s.Id), s, 1 << 20, func(t *testing.T, l *life) error { return l.saves(t, s) }}
}

func pruning() deed {
	return deed{"Prune", api.Shot{}, api.KeepShots, func(t *testing.T, l *life) error { return l.Prune() }}
}

// comesUp lets a machine that fell within a deed come up with some bytes, and asks what P12.12 and P12.13 say.
func (l *life) comesUp(t *testing.T, p past, d deed, keep []int) {
	t.Helper()
	fell := l.Files()
	l.Restart(keep)
	wrong := func(promise, what string) {
		t.Helper()
		t.Fatalf("%s: %s, %s, Restart(%v): %s; the shots are %v, sure before were %v", promise, d.what, told(fell), keep, what, l.Ids(), p.sure)
	}
	for _, id := range p.sure[max(0, len(p.sure)-d.kept):] {
		if got, err := l.Load(id); err != nil || !equal.Shot(got, p.shots[id]) {
			wrong("P12.12", fmt.Sprint("the shot ", id, " is lost: ", err))
		}
	}
	last := 0
	for _, id := range l.Ids() {
		want, there := p.shots[id]
		if id == d.saved.Id {
			want, there = d.saved, true
		}
		if got, err := l.Load(id); !there || err != nil || !equal.Shot(got, want) {
			wrong("P12.12", fmt.Sprint("the shot ", id, " wasn't there, or was another one"))
		}
		last = id
	}
	if handed, begun := l.handed[last]; last < l.newest || last > l.newest && !begun {
		wrong("P12.13", fmt.Sprint("the newest is ", last, ", that which was saved well is ", l.newest))
	} else if got, _ := l.Load(last); last > 0 && !equal.Shot(got, handed) {
		wrong("P12.13", fmt.Sprint("the newest, ", last, ", isn't as it was handed in"))
	}
}

// survivals gives lists for Restart: where one file alone has unsure bytes, of all numbers of them, or, if there are too many, of the edges and of one that is drawn.
func survivals(p *pen.Pen, files []api.File, most int) [][]int {
	var unsure []int
	for k, f := range files {
		if f.Synced < len(f.Data) {
			unsure = append(unsure, k)
		}
	}
	all := [][]int{nil, {1 << 20}}
	if len(unsure) != 1 {
		for range 3 {
			all = append(all, []int{p.Below(40), p.Below(100), pen.One(p, 0, 1<<20), p.Below(9)}[:p.Between(1, 4)])
		}
		return all
	}
	at := unsure[0]
	count := len(files[at].Data) - files[at].Synced
	numbers := []int{1, count - 1, p.Below(count)}
	if count <= most {
		numbers = numbers[:0]
		for k := range count {
			numbers = append(numbers, k)
		}
	}
	for _, k := range numbers {
		keep := make([]int, len(files))
		keep[at] = k
		all = append(all, keep)
	}
	return all
}

// fallsEverywhere lets the machine fall at every unit within a deed, and come up with what survives; it gives the number of falls.
func (l *life) fallsEverywhere(t *testing.T, p *pen.Pen, d deed, most int) int {
	t.Helper()
	before := l.past()
	for units := 0; ; units++ {
		one := l.again(t)
		one.Arm(units)
		err := d.do(t, one)
		if err != nil && !errors.Is(err, api.ErrDiskDown) {
			t.Fatalf("P12.9, P12.10: %s with %d units answers %v", d.what, units, err)
		}
		if _, e := one.List(); (e == api.OK) != (err == nil) {
			t.Fatalf("P12.9, P12.10: %s with %d units answers %v, and the machine's error is %d", d.what, units, err, e)
		}
		for _, keep := range survivals(p, one.Files(), most) {
			one.again(t).comesUp(t, before, d, keep)
		}
		if err == nil {
			return units
		}
	}
}

// TestEveryByteThatSurvives: small shots, a fall at every unit, and every number of bytes that are left of the file that tears.
func TestEveryByteThatSurvives(t *testing.T) {
	p := pen.Seeded(1)
	l := born(t)
	for id := 1; id <= 4; id++ {
		one := shot(id, part(fmt.Sprint(id, "; a:[1, 2, 3]; b:[", id, "]"), "", "p=1"), part(fmt.Sprint(id)))
		if falls := l.fallsEverywhere(t, p, saving(one), 1<<20); falls < 60 {
			t.Errorf("P12.12: Save has only %d places to fall", falls)
		}
		if err := l.saves(t, one); err != nil {
			t.Fatalf("P12.9: Save of %d: %v", id, err)
		}
		l.fallsEverywhere(t, p, pruning(), 1<<20)
	}
	if l.fallsEverywhere(t, p, pruning(), 1<<20) != 4 {
		t.Error("P12.12: Prune of four shots has another number of places to fall than four")
	}
}

// TestFallsOfDrawnShots: drawn shots, with failed calls among those that are stored already.
func TestFallsOfDrawnShots(t *testing.T) {
	falls := 0
	for seed := range 12 {
		d := seeded(seed)
		l := born(t)
		for range d.Between(1, 6) {
			if d.Below(3) == 0 {
				l.Fail(d.Below(2*len(d.states)+2), 1)
			}
			l.saves(t, d.shot(l.Next()))
			l.Fail(-1, 0)
		}
		falls += l.fallsEverywhere(t, d.Pen, saving(d.shot(l.Next()+d.Below(3))), 3)
		falls += l.fallsEverywhere(t, d.Pen, pruning(), 3)
	}
	if falls < 1500 {
		t.Errorf("P12.12: there are only %d places to fall", falls)
	}
}

// TestLives: vaults that go on behind fall after fall, with calls that fail between.
func TestLives(t *testing.T) {
	met := map[string]int{}
	for seed := range 200 {
		d := seeded(seed)
		l := born(t)
		for range 25 {
			if d.Below(4) == 0 {
				l.Fail(d.Below(8), d.Between(1, 3))
			}
			if d.Below(3) == 0 {
				l.Arm(pen.One(d.Pen, d.Below(300), d.Below(300), d.Below(5)))
			}
			next := pruning()
			if d.Below(3) > 0 && l.Next() <= 9999 {
				next = saving(d.shot(l.Next()))
			}
			before := l.past()
			err := next.do(t, l)
			_, e := l.List()
			met[fmt.Sprint(next.what[:4], " well: ", err == nil, ", up: ", e == api.OK)]++
			if e != api.OK || d.Below(6) == 0 {
				l.comesUp(t, before, next, []int{d.Below(60), d.Below(200), 0, 1 << 20}[:d.Below(5)])
			}
		}
		met[fmt.Sprint("shots ", len(l.Ids()) > 2)]++
	}
	for _, what := range []string{"Save well: true, up: true", "Save well: false, up: true", "Save well: false, up: false", "Prun well: true, up: true", "Prun well: false, up: true", "Prun well: false, up: false", "shots true"} {
		if met[what] < 20 {
			t.Errorf("P12.12: %q is met too seldom: %v", what, met)
		}
	}
}

// TestEveryBit: any bit that is turned, in any file that a Load reads, is seen by it, and no longer when it is turned back.
func TestEveryBit(t *testing.T) {
	turned := 0
	for seed := range 4 {
		d := seeded(seed)
		s := begun(t)
		for range 4 {
			s.saved(t, d.shot(s.Next()))
		}
		before := s.Files()
		for _, one := range (model{s.Disk}).complete() {
			for _, f := range one.files {
				// Of a long file some of the bits, others at each turn.
				for bit := d.Below(1 + len(f.Data)/200); s.Spoil(f.Name, bit); bit += 1 + len(f.Data)/200 {
					turned++
					got, err := s.Load(one.shot.Id)
					if !tells(err, at(one.shot.Id, f.Name, api.ErrVaultTorn)) || !equal.Shot(got, api.Shot{}) {
						t.Fatalf("P12.14: seed %d: with bit %d of %s turned, Load(%d) answers %s, %v", seed, bit, f.Name, one.shot.Id, shotTold(got), err)
					}
					s.Spoil(f.Name, bit)
				}
			}
			s.loads(t, "P12.14", one.shot)
		}
		if !sameFiles(s.Files(), before) {
			t.Fatalf("P12.14: Load changes the files")
		}
	}
	if turned < 10000 {
		t.Errorf("P12.14: only %d bits are turned", turned)
	}
}

// TestSegmentsInOthersPlaces: of the same store and of another one, of which the numbers are the same.
func TestSegmentsInOthersPlaces(t *testing.T) {
	refusals := 0
	for seed := range 6 {
		d, e := seeded(seed), seeded(seed+1000)
		s, other := begun(t), begun(t)
		for range 4 {
			s.saved(t, d.shot(s.Next()))
			other.saved(t, e.shot(other.Next()))
		}
		sumOf := func(f api.File) uint32 { return crc32.ChecksumIEEE(f.Data[4 : len(f.Data)-4]) }
		isSegment := func(f api.File) bool { return segForm.MatchString(f.Name) }
		complete := (model{s.Disk}).complete()
		for _, f := range s.Files() {
			for _, g := range slices.Concat(s.Files(), other.Files()) {
				if !isSegment(f) || !isSegment(g) || sumOf(f) == sumOf(g) {
					continue
				}
				put(side{Disk: s.Disk}, f.Name, g.Data)
				for _, one := range complete {
					reads := slices.ContainsFunc(one.files, func(x api.File) bool { return x.Name == f.Name })
					_, err := s.Load(one.shot.Id)
					if reads != (err != nil) {
						t.Fatalf("P12.14: seed %d: with a segment %s in the place of %s, Load(%d) answers %v", seed, g.Name, f.Name, one.shot.Id, err)
					}
					if reads {
						refusals++
					}
				}
				put(side{Disk: s.Disk}, f.Name, f.Data)
			}
		}
		for _, one := range complete {
			s.loads(t, "P12.14", one.shot)
		}
	}
	if refusals < 500 {
		t.Errorf("P12.14: only %d Loads read a segment in another's place", refusals)
	}
}
