package table_test

import (
	"testing"

	"furlong/api"
)

func hunger(queue int, since int64) api.Hunger { return api.Hunger{Queue: queue, Since: since} }

func TestRoundWithoutNodes(t *testing.T) {
	r := begin(t, trio(v(2, 2)), 40, 0)
	r.refused("nothing else either", round(), api.ErrNone)
	r.submit(task(1, 1, 1, 1))
	r.refused("a task waits", round(), api.ErrNone)
	r.joins("a node", node(1, 1, 0))
	r.idle("a node without memory: who waits is hungry", hunger(1, 0))
	r.parts("it", 1)
	r.elapse("time", 3, unchanged)
	r.refused("Hungry stays as it was", round(), api.ErrNone)
}

func TestRoundWithNothingWanted(t *testing.T) {
	r := home(t)
	r.idle("no tasks")
	r.submit(task(1, 1, 1, 1), task(2, 1, 1, 1), task(3, 1, 1, 1))
	r.grants("one", 1, 1, []int{0})
	r.killed("another one", 2)
	r.grants("the third one", 3, 1, []int{1})
	r.finished("one", 1, 1, 1, 0)
	r.idle("one is Leased, one Killed, one Done")
}

// What is granted fits on the tightest node, on its first free cores.
func TestRoundPlaces(t *testing.T) {
	r := begin(t, wide(), 40, 10, node(1, 4, 9), node(2, 2, 3), node(5, 3, 9))
	r.submit(task(1, 1, 1, 4), task(2, 1, 2, 3), task(3, 1, 2, 5), task(4, 1, 3, 1), task(5, 1, 1, 4), task(6, 1, 1, 0))
	r.grants("the tightest has too little memory", 1, 5, []int{0})
	r.grants("two alike: the least Id", 2, 2, []int{0, 1})
	r.grants("the cores that are left", 3, 5, []int{1, 2})
	r.grants("the last node", 4, 1, []int{0, 1, 2})
	r.grants("one core is left", 5, 1, []int{3})
	r.idle("no core is left")
	r.finished("the second core of three, and the third one", 3, 5, 1, 0)
	r.grants("a core between", 6, 5, []int{1})
}

func TestRoundTimes(t *testing.T) {
	r := begin(t, wide(), 7, 10, node(1, 4, 9))
	r.submit(task(1, 1, 1, 4), task(2, 1, 2, 3))
	r.elapse("time", 100, unchanged)
	r.grants("since 100, until 107", 1, 1, []int{0})
	r.elapse("time", 3, unchanged)
	r.grants("since 103, until 110", 2, 1, []int{1, 2})
	if a, b := r.s.Leases[0], r.s.Leases[1]; a.Since != 100 || a.Until != 107 || b.Since != 103 || b.Until != 110 {
		t.Errorf("P11.3: the leases are %v", r.s.Leases)
	}
}

// A leaf's first task has the least Id of those that are pending, whenever it was submitted; it alone counts.
func TestRoundTakesFirstTasks(t *testing.T) {
	r := begin(t, wide(), 40, 10, node(1, 3, 9))
	r.submit(task(9, 1, 1, 1), task(4, 1, 2, 1), task(6, 1, 4, 1), task(8, 1, 1, 1))
	r.grants("the least Id", 4, 1, []int{0, 1})
	r.idle("the next one has no place, and those behind it wait")
	r.submit(task(5, 1, 1, 1))
	r.grants("one ahead of it", 5, 1, []int{2})
	r.killed("who had no place", 6)
	r.idle("no core")
	r.finished("a task", 4, 1, 1, 0)
	r.grants("the next one", 8, 1, []int{0})
	r.grants("the one behind", 9, 1, []int{1})
}

// What has room but no place isn't wanted, nor what has a place but no room; others are.
func TestRoundRoomAndPlace(t *testing.T) {
	most := v(9, 99)
	queues := []api.Queue{q(0, -1, 1, most, v(0, 0)), q(1, 0, 1, most, v(0, 0)), q(2, 0, 1, v(2, 99), v(0, 0)), q(3, 0, 1, most, v(0, 0))}
	r := begin(t, queues, 40, 10, node(1, 2, 9), node(2, 3, 9))
	r.submit(task(1, 1, 4, 1), task(2, 2, 2, 1), task(3, 2, 1, 1), task(4, 3, 1, 10))
	r.grants("1 and 3 have room, but no place", 2, 1, []int{0, 1})
	r.idle("2 has a place, but no room")
	r.submit(task(0, 3, 1, 2))
	r.grants("the first one of 3", 0, 2, []int{0})
	r.killed("the task without a place", 1)
	r.idle("2 has no room, 3 no place")
	r.finished("what took the room", 2, 1, 1, 0)
	r.grants("2 has room", 3, 1, []int{0})
}

// Room is asked of the whole path: what a sister uses counts above both.
func TestRoundRoomAbove(t *testing.T) {
	most := v(9, 99)
	queues := []api.Queue{q(0, -1, 1, most, v(0, 0)), q(1, 0, 1, v(3, 5), v(0, 0)), q(2, 1, 1, most, v(0, 0)), q(3, 1, 1, most, v(0, 0)), q(4, 0, 1, most, v(0, 0))}
	r := begin(t, queues, 40, 10, node(1, 9, 99))
	r.submit(task(1, 2, 2, 2), task(2, 3, 1, 4), task(3, 4, 3, 3))
	r.grants("a lease", 1, 1, []int{0, 1})
	r.grants("a sister has no room in memory", 3, 1, []int{2, 3, 4})
	r.idle("nobody has room")
	r.killed("what takes the room", 1)
	r.idle("its lease takes it still")
	r.buried("it", 1, 1, 1, 0)
	r.grants("the sister", 2, 1, []int{0})
}

// buried has the lease of a killed task be gone.
func (r *run) buried(what string, task, node, inc int, since int64) {
	r.t.Helper()
	r.do(what, finish(task, node, inc, since), api.Answer{Task: task}, func(s *api.State) { unlease(s, task, api.Killed) })
}

// From the root down the child with the least share by its weight is gone to, of those that want; of several the least Id.
func TestRoundGoesDown(t *testing.T) {
	most := v(99, 99)
	queues := []api.Queue{q(0, -1, 1, most, v(0, 0)), q(1, 0, 1, most, v(0, 0)), q(2, 0, 1, most, v(0, 0)), q(3, 1, 1, most, v(0, 0)), q(4, 1, 3, most, v(0, 0)), q(5, 2, 1, most, v(0, 0))}
	r := begin(t, queues, 1000, 10, node(1, 12, 12))
	for id := range 5 {
		r.submit(task(30+id, 3, 1, 0), task(40+id, 4, 1, 0), task(50+id, 5, 1, 0))
	}
	for core, id := range []int{30, 50, 40, 51, 41, 52, 42, 53, 31, 54, 43, 44} {
		r.grants("whose turn it is", id, 1, []int{core})
	}
	r.idle("no core is left")
}

// The dominant share counts: of the nodes' whole, not of the Quotas.
func TestRoundSharesOfTheNodes(t *testing.T) {
	most := v(99, 99)
	queues := []api.Queue{q(0, -1, 1, most, v(0, 0)), q(1, 0, 1, most, v(0, 0)), q(2, 0, 1, most, v(0, 0))}
	r := begin(t, queues, 1000, 10, node(1, 4, 20), node(2, 6, 20))
	r.submit(task(1, 1, 1, 8), task(2, 2, 3, 1), task(3, 1, 1, 5), task(4, 2, 1, 1), task(5, 1, 1, 5))
	r.grants("alike", 1, 1, []int{0})
	r.grants("2 has nothing", 2, 1, []int{1, 2, 3})
	r.grants("1 has 8 of 40, 2 has 3 of 10", 3, 2, []int{0})
	r.grants("1 has 13 of 40, 2 has 3 of 10", 4, 2, []int{1})
	r.grants("1 has 13 of 40, 2 has 4 of 10", 5, 2, []int{2})
}

// The leases that are Stop count for the shares, the room and the places till they end.
func TestRoundCountsStop(t *testing.T) {
	r := home(t)
	r.submit(task(1, 1, 2, 1), task(2, 1, 1, 1), task(3, 2, 1, 1), task(4, 2, 1, 1), task(5, 2, 4, 1))
	r.grants("a lease", 1, 1, []int{0, 1})
	r.killed("it", 1)
	r.grants("2 has less", 3, 2, []int{0})
	r.grants("2 has less still, by its weight", 4, 2, []int{1})
	r.grants("2's first one has no place", 2, 2, []int{2})
	r.elapse("all end", 40, func(s *api.State) {
		unlease(s, 1, api.Killed)
		for _, id := range []int{2, 3, 4} {
			unlease(s, id, api.Pending)
		}
	})
	r.grants("nobody has anything", 2, 1, []int{0})
}

// starving is queue 2 with all four cores of the node 1, by the tasks 10 to 13, and Patience 10; 1 has the Min (2, 2).
func starving(t *testing.T) *run {
	t.Helper()
	r := begin(t, trio(v(2, 2)), 100, 10, node(1, 4, 16))
	for i := range 4 {
		r.submit(task(10+i, 2, 1, 1))
		r.grants("a lease of 2", 10+i, 1, []int{i})
	}
	return r
}

func TestHungerAndPatience(t *testing.T) {
	r := starving(t)
	r.elapse("time", 5, unchanged)
	r.submit(task(1, 1, 1, 1), task(2, 1, 1, 1))
	r.idle("hungry since now", hunger(1, 5))
	r.elapse("one less than Patience", 9, unchanged)
	r.idle("less than Patience", hunger(1, 5))
	r.elapse("one more", 1, unchanged)
	r.stops("just Patience", 13, hunger(1, 15))
	r.idle("hungry since now again", hunger(1, 15))
	r.elapse("more than Patience", 12, unchanged)
	r.stops("another one", 12, hunger(1, 27))
	r.elapse("one less than Patience", 9, unchanged)
	r.idle("less than Patience", hunger(1, 27))
	r.elapse("one more", 1, unchanged)
	r.stops("a third one, for none has ended yet", 11, hunger(1, 37))
	r.elapse("the leases end", 63, func(s *api.State) {
		for i := range 4 {
			unlease(s, 10+i, api.Pending)
		}
	})
	r.grants("who is hungry", 1, 1, []int{0}, hunger(1, 37))
	r.grants("2 has less, but 1 is hungry still", 10, 1, []int{1}, hunger(1, 37))
	r.grants("2 has less by its weight", 11, 1, []int{2}, hunger(1, 37))
	r.grants("1 has less", 2, 1, []int{3}, hunger(1, 37))
	r.idle("1 has what it wants")
}

// A Patience of 0 has a lease yield at once; one of MaxRes has to be waited for.
func TestPatienceOfNothingAndOfMaxRes(t *testing.T) {
	r := begin(t, trio(v(2, 2)), 40, 0, node(1, 1, 8))
	r.submit(task(5, 2, 1, 1))
	r.grants("a lease", 5, 1, []int{0})
	r.submit(task(1, 1, 1, 1))
	r.stops("at once", 5, hunger(1, 0))
	r.idle("nobody else may yield", hunger(1, 0))
	r = begin(t, trio(v(2, 2)), api.MaxRes, api.MaxRes, node(1, 1, 8))
	r.submit(task(5, 2, 1, 1))
	r.grants("a lease", 5, 1, []int{0})
	r.elapse("time", 1, unchanged)
	r.submit(task(1, 1, 1, 1))
	r.idle("hungry since now", hunger(1, 1))
	r.elapse("one less than Patience", api.MaxRes-2, unchanged)
	r.renews("the lease", 1, 1, 1, 5)
	r.elapse("one more", 1, unchanged)
	r.idle("one less still", hunger(1, 1))
	r.elapse("one more", 1, unchanged)
	r.stops("just Patience", 5, hunger(1, api.MaxRes+1))
}

// Who isn't hungry any more begins anew.
func TestHungerBeginsAnew(t *testing.T) {
	r := starving(t)
	r.submit(task(1, 1, 1, 1))
	r.idle("hungry", hunger(1, 0))
	r.elapse("time", 6, unchanged)
	r.killed("its task", 1)
	r.idle("nobody is hungry")
	r.submit(task(2, 1, 1, 1))
	r.elapse("time", 6, unchanged)
	r.idle("hungry since now", hunger(1, 12))
	r.elapse("time", 9, unchanged)
	r.idle("less than Patience", hunger(1, 12))
	r.do("nothing is guaranteed to it any more", setQueue(q(1, 0, 1, v(6, 16), v(0, 0))), api.Answer{}, func(s *api.State) {
		s.Queues[1].Min = v(0, 0)
	})
	r.elapse("time", 9, unchanged)
	r.idle("nobody is hungry, so nobody yields")
}

// A killed task and another one between two Rounds: the leaf was hungry all along.
func TestHungerIsALeafs(t *testing.T) {
	r := starving(t)
	r.submit(task(1, 1, 1, 1))
	r.idle("hungry", hunger(1, 0))
	r.killed("its task", 1)
	r.submit(task(2, 1, 2, 2))
	r.elapse("Patience", 10, unchanged)
	r.stops("it is the leaf that is hungry", 13, hunger(1, 10))
}

// Hungry is who has less than its Min by just the first task's need, or by more; all leases count.
func TestWhoIsHungry(t *testing.T) {
	r := begin(t, trio(v(2, 4)), 100, 10, node(1, 3, 16), node(2, 1, 0))
	r.submit(task(1, 1, 3, 1), task(2, 1, 1, 1), task(10, 2, 1, 1))
	r.grants("the first one wants more than the Min", 1, 1, []int{0, 1, 2})
	r.finished("it", 1, 1, 1, 0)
	r.grants("1 is hungry by 1 of 2", 2, 1, []int{0}, hunger(1, 0))
	r.submit(task(3, 1, 1, 4), task(11, 2, 1, 1))
	r.grants("1 wants too much memory to be hungry", 10, 1, []int{1})
	r.grants("2 has less by its weight", 11, 1, []int{2})
	r.killed("the first one", 3)
	r.submit(task(4, 1, 1, 3), task(12, 2, 1, 1))
	r.idle("just what is guaranteed, and no place", hunger(1, 0))
	r.killed("a leased one", 2)
	r.idle("its lease counts still", hunger(1, 0))
	r.buried("it", 2, 1, 1, 0)
	r.grants("hungry still", 4, 1, []int{0}, hunger(1, 0))
	r.idle("2 has no Min, so it isn't hungry")
}

// three is the leaves 1, 2 and 3, of which 1 and 3 have the Min (1, 1), and 2 has both cores.
func three(t *testing.T, patience int64) *run {
	t.Helper()
	most := v(9, 99)
	queues := []api.Queue{q(0, -1, 1, most, v(2, 2)), q(1, 0, 1, most, v(1, 1)), q(2, 0, 1, most, v(0, 0)), q(3, 0, 1, most, v(1, 1))}
	r := begin(t, queues, 100, patience, node(1, 2, 8))
	r.submit(task(10, 2, 1, 1), task(11, 2, 1, 1))
	r.grants("a lease of 2", 10, 1, []int{0})
	r.grants("a lease of 2", 11, 1, []int{1})
	return r
}

func TestTwoAreHungry(t *testing.T) {
	r := three(t, 10)
	r.submit(task(30, 3, 1, 1))
	r.idle("3 is hungry", hunger(3, 0))
	r.elapse("time", 4, unchanged)
	r.submit(task(1, 1, 1, 1))
	r.idle("1 is hungry too", hunger(1, 4), hunger(3, 0))
	r.elapse("time", 6, unchanged)
	r.stops("3 was for Patience, 1 not yet", 11, hunger(1, 4), hunger(3, 10))
	r.elapse("time", 3, unchanged)
	r.idle("1 not yet", hunger(1, 4), hunger(3, 10))
	r.elapse("time", 1, unchanged)
	r.stops("1 now", 10, hunger(1, 14), hunger(3, 10))
	r.elapse("time", 30, unchanged)
	r.idle("nobody is left that may yield", hunger(1, 14), hunger(3, 10))
}

// Both for Patience: the one with the least Since; of several the least Queue.
func TestTwoAreHungryForPatience(t *testing.T) {
	r := three(t, 10)
	r.submit(task(30, 3, 1, 1))
	r.idle("3 is hungry", hunger(3, 0))
	r.elapse("time", 1, unchanged)
	r.submit(task(1, 1, 1, 1))
	r.idle("1 is hungry too", hunger(1, 1), hunger(3, 0))
	r.elapse("time", 19, unchanged)
	r.stops("3 is hungry since longer ago", 11, hunger(1, 1), hunger(3, 20))
	r.stops("then 1", 10, hunger(1, 20), hunger(3, 20))
	r = three(t, 10)
	r.submit(task(30, 3, 1, 1), task(1, 1, 1, 1))
	r.idle("both are hungry", hunger(1, 0), hunger(3, 0))
	r.elapse("time", 15, unchanged)
	r.stops("the least Queue", 11, hunger(1, 15), hunger(3, 0))
	r.stops("then the other one", 10, hunger(1, 15), hunger(3, 15))
}

// Where no lease may yield, who is hungry stays so since then.
func TestNobodyMayYield(t *testing.T) {
	most := v(9, 99)
	queues := []api.Queue{q(0, -1, 1, most, v(3, 3)), q(1, 0, 1, most, v(1, 1)), q(2, 0, 1, most, v(2, 2))}
	r := begin(t, queues, 100, 10, node(1, 2, 8))
	r.submit(task(10, 2, 1, 1), task(11, 2, 1, 1))
	r.grants("a lease of 2", 10, 1, []int{0}, hunger(2, 0))
	r.grants("a lease of 2", 11, 1, []int{1}, hunger(2, 0))
	r.submit(task(1, 1, 1, 1))
	r.idle("1 is hungry", hunger(1, 0))
	r.elapse("more than Patience", 25, unchanged)
	r.idle("2 needs what it has", hunger(1, 0))
	r.do("its Min is less", setQueue(q(2, 0, 1, most, v(1, 1))), api.Answer{}, func(s *api.State) { s.Queues[2].Min = v(1, 1) })
	r.stops("then one may yield", 11, hunger(1, 25))
	r.elapse("more than Patience", 25, unchanged)
	r.idle("without it, 2 needs the other one", hunger(1, 25))
}

// Of the queues that may yield it is the one with the greatest share of the nodes by its weight.
func TestWhoYields(t *testing.T) {
	most := v(99, 99)
	queues := []api.Queue{q(0, -1, 1, most, v(2, 2)), q(1, 0, 1, most, v(1, 1)), q(2, 0, 1, most, v(0, 0)), q(3, 0, 1, most, v(1, 1)), q(4, 0, 4, most, v(0, 0))}
	r := begin(t, queues, 100, 0, node(1, 8, 80))
	r.submit(task(20, 2, 2, 10), task(30, 3, 1, 25), task(40, 4, 4, 1), task(31, 3, 1, 1))
	r.grants("a lease", 20, 1, []int{0, 1})
	r.grants("a lease", 30, 1, []int{2})
	r.grants("a lease", 40, 1, []int{3, 4, 5, 6})
	r.grants("a lease", 31, 1, []int{7})
	r.submit(task(1, 1, 1, 1))
	r.stops("3 has 26 of 80, more than 2 of 8; it covers its Min without one of both", 31, hunger(1, 0))
	r.stops("2, for 3 covers its Min no more", 20, hunger(1, 0))
	r.stops("4 alone is left", 40, hunger(1, 0))
	r.idle("nobody", hunger(1, 0))
}

// A lease yields only where nothing is wanted that has room and a place.
func TestGrantsComeAheadOfVictims(t *testing.T) {
	r := begin(t, trio(v(2, 2)), 100, 0, node(1, 2, 16))
	r.submit(task(10, 2, 1, 1))
	r.grants("a lease of 2", 10, 1, []int{0})
	r.submit(task(1, 1, 2, 2), task(11, 2, 1, 1))
	r.grants("1 is hungry, but has no place", 11, 1, []int{1}, hunger(1, 0))
	r.stops("nothing is wanted", 11, hunger(1, 0))
	r.stops("another one", 10, hunger(1, 0))
	r.idle("all are Stop", hunger(1, 0))
}
