package anew_test

import (
	"reflect"
	"testing"

	"sloth/anew"
	"sloth/api"
	"sloth/core"
)

const text = `(data M.T (a b) ("M.L") ("M.N" (M.T a b) a (M.T b a))) (data M.E () ("M.R"))
	(def "f" (a b) ((Pair a b) -> a) (lam "p" (Pair a b) (case "p" (con "Pair" ("x" "y") (seq (fail 1 (List b)) "x")))))
	(def "m" () Int (let (("l" (List Int) (con "Nil" Int)) ("n" Int 3)) (hard "k" Int (op + "n" 1) (app (global "f" Int (List Int)) (app (app (con "Pair" Int (List Int)) "k") "l")))))`

// rooms counts the lists of something, by where they lie.
func rooms(v reflect.Value, met map[uintptr]int) {
	switch v.Kind() {
	case reflect.Struct:
		for i := range v.NumField() {
			rooms(v.Field(i), met)
		}
	case reflect.Slice:
		if v.Cap() > 0 {
			met[v.Pointer()]++
		}
		for i := range v.Len() {
			rooms(v.Index(i), met)
		}
	}
}

// TestProgram: W6: the same program, in which no list lies where another does, here or there.
func TestProgram(t *testing.T) {
	p, code := core.Read(text)
	if code != api.OK || core.Check(p) != api.OK {
		t.Fatal("the test is wrong:", code)
	}
	// a program whose lists share memory: each definition's parts stand in another one too
	p.Defs = append(p.Defs, p.Defs...)
	p.Datas = append(p.Datas, p.Datas...)
	q := anew.Program(p)
	if !reflect.DeepEqual(p, q) {
		t.Errorf("%v\n%v", p, q)
	}
	met := map[uintptr]int{}
	rooms(reflect.ValueOf(p), met)
	for from := range met {
		met[from] = 1
	}
	rooms(reflect.ValueOf(q), met)
	for _, times := range met {
		if times > 1 {
			t.Fatal("lists share memory")
		}
	}
	if q := anew.Program(api.Program{}); len(q.Datas)+len(q.Defs) > 0 {
		t.Error(q)
	}
}
