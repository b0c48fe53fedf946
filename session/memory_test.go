package session_test

import (
	"reflect"
	"testing"

	"furlong/api"
	"furlong/session"
)

// someEntries go on with the book that has lived: each kind of what Step does.
func someEntries() []api.Entry {
	long := submit(2, 1, 1, 1)
	long.Task.Tickets = []int{3, 4, 5, 6, 7}
	return []api.Entry{
		entry(1, -1, 0, long), entry(1, 5, 1, long), entry(0, 0, 6, renew(2, 2)), entry(0, 20, 1, renew(1, 2)), entry(0, 2, 1, round()),
		entry(1, 4, 3, round()), entry(1, 9, 8, renew(1, 1)), entry(1, 3, 1, long), entry(-1, 3, 1, long), entry(-1, 3, 0, long),
		entry(-1, -1, 0, kill(20)), entry(2, 7, 2, api.Command{}), entry(40, 7, 1, long), entry(0, 6, 2, long),
	}
}

func TestListsOfStepStandAlone(t *testing.T) {
	for _, e := range someEntries() {
		given, told := roomy(lived(t)), roomy(e)
		next, answer := session.Step(given, told)
		other, second := session.Step(given, told)
		behind, third := session.Step(next, told)
		alone(t, "Step", &given, &told, &next, &answer, &other, &second, &behind, &third)
	}
}

func TestListsOfFoldStandAlone(t *testing.T) {
	l := roomy(append(someEntries(), someEntries()...))
	given := roomy(lived(t))
	next, answers := session.Fold(given, l)
	behind, more := session.Fold(next, l)
	nothing, none := session.Fold(given, nil)
	alone(t, "Fold", &given, &l, &next, &answers, &behind, &more, &nothing, &none)
}

func TestListsOfNewStandAlone(t *testing.T) {
	given := roomy(lived(t).State)
	b := session.New(given)
	other := session.New(given)
	alone(t, "New", &given, &b, &other)
}

func TestListsOfEncodeStandAlone(t *testing.T) {
	given := roomy(lived(t))
	p, _ := session.Encode(given)
	other, _ := session.Encode(given)
	alone(t, "Encode", &given, &p, &other)
}

func TestListsOfDecodeStandAlone(t *testing.T) {
	p, _ := session.Encode(lived(t))
	p = roomy(p)
	b, _ := session.Decode(p)
	other, _ := session.Decode(p)
	alone(t, "Decode", &p, &b, &other)
}

// What is answered stays, whatever is written into what was handed in.
func TestAnswersStay(t *testing.T) {
	spoilAll := func(things ...any) {
		for _, x := range things {
			for _, l := range lists(reflect.ValueOf(x).Elem()) {
				spoil(l)
			}
		}
	}
	for _, e := range someEntries() {
		given, told := roomy(lived(t)), roomy(e)
		next, answer := session.Step(given, told)
		wantBook, wantAnswer := tidied(next), tidied(answer)
		spoilAll(&given, &told)
		if !same(next, wantBook) || !same(answer, wantAnswer) {
			t.Errorf("memory: what Step answers to %v hangs on what was handed in", e)
		}
		spoilAll(&answer)
		if !same(next, wantBook) {
			t.Errorf("memory: the book behind %v hangs on its answer", e)
		}
	}
	given := roomy(lived(t))
	p, _ := session.Encode(given)
	b, _ := session.Decode(p)
	spoilAll(&given, &p)
	if !same(b, lived(t)) {
		t.Errorf("memory: what Decode answers hangs on its bytes")
	}
}
