package vault_test

import (
	"slices"
	"strings"
	"testing"

	"hayloft/api"
)

// someKeeps is how much may be kept of what was pending: the same of all, or of each something else.
func someKeeps(i int, chance func(below int) int) []int {
	all := []int{-1, 0, 1, 4, 8, 12, 56, 60, 61, 63, 64, 1000}
	if i < len(all) {
		return slices.Repeat(all[i:i+1], 100)
	}
	var keeps []int
	for range chance(100) {
		keeps = append(keeps, chance(70)-3)
	}
	return keeps
}

// howMany is how many of them there are to try.
const howMany = 16

// again holds that what was restored is the same at any base, behind whatever crash, and on another vault over the same disk, which it hangs on alone.
func (x *twin) again(chance func(below int) int) {
	x.Helper()
	seq := x.tree.Seq
	for _, base := range []int{256, x.now.base, 1 << 40, 256 * (1 + chance(1<<30))} {
		y := x.opened(api.Config{Base: 256, Pages: x.config.Pages, Workers: x.config.Workers, Handles: x.config.Handles})
		y.tells(restore(base), seq)
		x.do(crash(someKeeps(chance(howMany+4), chance)...))
		x.tells(restore(base), seq)
		x.tells(restore(base), seq)
	}
}

// herd makes some objects that lead to one another.
func (x *twin) herd() {
	x.all(define(16, 0), define(40, 8, 32), define(300, 0), alloc(0, 0), alloc(1, 1), alloc(0, 2), alloc(1, 0),
		set(65537, 0, 65538), set(65538, 1, 65539), set(65539, 0, 65539), set(65540, 0, 65537), write(65539, 9, strings.Repeat("hay", 90)))
}

// changes are what is done between two checkpoints: nothing, a little, much.
func changes() []func(x *twin) {
	return []func(x *twin){
		func(x *twin) {},
		func(x *twin) { x.do(write(65537, 8, "other")) },
		func(x *twin) { x.all(free(0, 65538), alloc(0, 0), define(9), compact()) },
		func(x *twin) { x.all(free(0, 65537), free(0, 65538), free(0, 65539), free(0, 65540), scavenge()) },
	}
}

// P24.5, P3: the power fails at each write and flush of a checkpoint, behind none, one or some, whatever is kept and however it is torn; the heap that comes back is just the one that was saved last, or, from the manifest's write on, perhaps the one that was being saved; restored again, the same.
func TestPower(t *testing.T) {
	chance := noise(2402)
	for ahead := range 4 {
		for _, change := range changes() {
			for n := 1; ; n++ {
				stayed := false
				for i := range howMany {
					x := small(t, 8, 2, 9, 60)
					x.herd()
					for k := range ahead {
						x.save()
						x.do(write(65540, 8, strings.Repeat("y", k+1)))
					}
					change(x)
					x.all(arm(n), begin())
					for x.now != nil && x.coming != nil {
						x.do(step())
					}
					if stayed = x.now != nil; stayed {
						break
					}
					x.is(restore(256), api.ErrDown)
					x.do(crash(someKeeps(i, chance)...))
					x.do(restore(256 * (1 + chance(1<<20))))
					x.again(chance)
					if i%5 == 0 {
						x.goesOn()
					}
				}
				if stayed {
					break
				}
			}
		}
	}
}

// goesOn holds that a vault that was restored can do all that one can do.
func (x *twin) goesOn() {
	x.Helper()
	x.do(define(24, 16))
	o := x.made(0, len(x.now.kinds)-1)
	x.all(write(o, 3, "goes on"), set(o, 0, o))
	x.save()
	x.all(write(o, 3, "is lost"), crash())
	x.do(restore(512))
	x.all(read(o, 3, 7), get(o, 0), free(0, o), get(o, 0))
}

// P24.2, P24.5: a crash behind each step of a checkpoint, with the power still there.
func TestCrash(t *testing.T) {
	chance := noise(2403)
	for ahead := range 3 {
		for n := range 14 {
			for i := range howMany {
				x := small(t, 8, 2, 9, 60)
				x.herd()
				for range ahead {
					x.save()
					x.do(write(65540, 8, "ahead"))
				}
				x.do(begin())
				for range n {
					if x.coming != nil {
						x.do(step())
					}
				}
				x.do(busied(crash(someKeeps(i, chance)...)))
				if i%2 == 0 {
					x.do(crash(64, 64, 64))
				}
				x.do(restore(1 << 20))
				x.again(chance)
			}
		}
	}
}

// P24.5: a restore behind each step of a checkpoint, with the power there: the manifest that was written counts then.
func TestRestoreUnderWay(t *testing.T) {
	chance := noise(2404)
	for n := range 12 {
		x := small(t, 8, 2, 9, 60)
		x.herd()
		x.save()
		x.all(write(65540, 8, "another"), free(1, 65538), begin())
		steps := len(x.coming.steps)
		for range min(n, steps) {
			x.do(step())
		}
		want := 1
		if n >= steps-1 {
			want = 2
		}
		x.tells(restore(1<<20), want)
		x.again(chance)
		x.goesOn()
	}
}

// P24.5: the power fails at the flush of a restore that would make a manifest sure.
func TestPowerFailsAtRestore(t *testing.T) {
	chance := noise(2405)
	for i := range 4 * howMany {
		x := small(t, 8, 2, 9, 60)
		x.herd()
		x.save()
		x.all(write(65540, 8, "another"), begin())
		for len(x.coming.steps)-x.coming.done > 1 {
			x.do(step())
		}
		x.do(arm(1))
		x.is(restore(1<<20), api.ErrDown)
		x.is(restore(1<<20), api.ErrDown)
		x.do(crash(someKeeps(i%howMany, chance)...))
		x.do(restore(1 << 20))
		x.again(chance)
	}
}

// P24.5: what a checkpoint has written that was given up is nothing's, whatever is kept of it; nor is what one has written at which the power went.
func TestGivenUp(t *testing.T) {
	chance := noise(2406)
	for n := range 8 {
		for i := range howMany {
			x := small(t, 8, 2, 9, 60)
			x.herd()
			x.save()
			for _, text := range []string{"one", "another", "a third"} {
				x.all(write(65540, 8, text), alloc(0, 2), begin())
				for range n {
					if len(x.coming.steps)-x.coming.done > 2 {
						x.do(step())
					}
				}
				x.is(drop(), api.OK)
			}
			if i%2 == 0 {
				x.save()
			}
			x.do(crash(someKeeps(i, chance)...))
			x.tells(restore(4096), 1+(i+1)%2)
			x.again(chance)
		}
	}
}

// P3: power that fails again and again, at anything, and whatever is kept.
func TestPowerAgainAndAgain(t *testing.T) {
	chance := noise(2407)
	for range 60 {
		x := small(t, 8, 2, 9, 30+chance(40))
		x.herd()
		for range 20 {
			if x.now == nil {
				x.do(crash(someKeeps(chance(howMany+9), chance)...))
				x.do(arm(chance(3)))
				x.do(restore(256 * (1 + chance(1<<20))))
				continue
			}
			for _, o := range x.now.handles() {
				x.do(write(o, 8, string(rune('a'+chance(20)))))
			}
			if len(x.now.kinds) > 0 {
				x.do(alloc(0, chance(len(x.now.kinds))))
			} else {
				x.do(define(20))
			}
			x.all(arm(chance(20)), begin())
			for range chance(30) {
				if x.now != nil && x.coming != nil {
					x.do(step())
				}
			}
		}
	}
}
