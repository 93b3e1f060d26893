import PyProof.Rows.All
import Wide.All
import OpenK.AllK
import Wide.FinOn
import PySem.Challenge.RW_faultorder_k06_events_refused
import HandS.ForMost
import HandS.WideBits
import HandS.Small
import HandS.IsInst
import HandS.TupAny
import HandS.Deep
import HandS.DictComp
import HandS.Walk
import HandS.DictTup
import HandS.Flow
import KE.KDictList
import HandS.Conv
import HandS.More
import HandS.Lambda
import HandS.Nested
import HandS.EndTab
import HandS.Property
import KE.KFmtOwn
import PyProof.InstNe
import PyProof.DictUpdate
import KE.SortData
import KE.KDictPairs
import KE.KItemsList
import HandS.ListItems
import HandS.MakeKwOnly
import HandS.Codes
import PyProof.P3Eq
import HandS.Zip0
import KE.GoesMore
import KE.OsSortAny
import HandS.SetFor
import PyProof.EqKinds
import PyProof.ReprRoads
import PyProof.ReprBulk
import PyProof.Rows.ReprShort
import PyProof.RowDictHeap
import HandS.Finally
import PyProof.EqAt
import PyProof.TupleCall
import KE.KFromBytes
import HandS.Base
import HandS.Call
import HandS.List
import HandS.Ends
import HandS.Exc
import HandS.ExcInit
import HandS.NestedK
import HandS.ClsMeth
import HandS.FStr
import KE.KSuper
import KE.KSuperObj
import KE.KExcSuper
import HandS.Words
import PyProof.FactsAll.dict
import PyProof.FactsAll.subtypes
import PyProof.P3In
import HandS.Dict
import HandS.ExcField
import HandS.WordsExc
import KE.KNestM
import KE.KLam
set_option Elab.async false
set_option linter.all false
set_option maxRecDepth 100000
set_option maxHeartbeats 2000000
namespace Kf
open PySem PySem.Spec PyProof.Rows L2
def topS (i : Nat) : Stmt := PySem.Challenge.pw_faultorder_k06_events_refused.main.body.getD i (.Pass ⟨0, 0, 0, 0⟩)
abbrev s__wall : Stmt := topS 0
abbrev s_is_name : Stmt := topS 11
abbrev s_is_integer : Stmt := topS 12
abbrev s_is_list : Stmt := topS 13
abbrev s_all_differ : Stmt := topS 14
abbrev s_is_choice : Stmt := topS 15
abbrev s_is_part : Stmt := topS 16
abbrev s_are_parts : Stmt := topS 17
abbrev s_is_watch : Stmt := topS 18
abbrev s_is_gate : Stmt := topS 19
abbrev s_are_gates : Stmt := topS 20
abbrev s_is_cause : Stmt := topS 21
abbrev s_are_causes : Stmt := topS 22
abbrev s_take : Stmt := topS 23
abbrev s_first_uses : Stmt := topS 24
abbrev s_gate_truth : Stmt := topS 25
abbrev s_tell : Stmt := topS 26
abbrev s_is_top : Stmt := topS 27
abbrev s_beginning : Stmt := topS 30
abbrev s_truths_in : Stmt := topS 31
abbrev s_events_in : Stmt := topS 32
abbrev s_came_first : Stmt := topS 33
abbrev s_truths_now : Stmt := topS 34
abbrev s_state_of : Stmt := topS 35
abbrev s_joining : Stmt := topS 36
abbrev s_after_failure : Stmt := topS 37
abbrev s_after_mend : Stmt := topS 38
abbrev s_after : Stmt := topS 39
abbrev s_at : Stmt := topS 41
abbrev s__law_begin : Stmt := topS 43
abbrev s__law_take : Stmt := topS 44
abbrev s__law_pick : Stmt := topS 45
abbrev s__law_mixed : Stmt := topS 46
abbrev s__law_words : Stmt := topS 47
abbrev s__law_some : Stmt := topS 48
abbrev s__law_gate : Stmt := topS 49
abbrev s__law_plant : Stmt := topS 50
abbrev s__law_seat : Stmt := topS 51
abbrev s__law_truth : Stmt := topS 52
abbrev s__law_truths : Stmt := topS 53
abbrev s__law_closed : Stmt := topS 54
abbrev s__law_fresh : Stmt := topS 55
abbrev s__law_event : Stmt := topS 56
abbrev s__law_can : Stmt := topS 57
abbrev s__law_led : Stmt := topS 58
abbrev s__law_row : Stmt := topS 59
abbrev s__law_made : Stmt := topS 60
abbrev s__law_caught : Stmt := topS 61
abbrev s__law_any_event : Stmt := topS 62
abbrev s__law_index : Stmt := topS 63
abbrev s_law : Stmt := topS 64
abbrev s_BadPlant___init__ : Stmt := inClass (topS 3) 0
abbrev s_NoEvent___init__ : Stmt := inClass (topS 4) 0
abbrev s_Plant___init__ : Stmt := inClass (topS 28) 0
abbrev s_Plant___eq__ : Stmt := inClass (topS 28) 1
abbrev s_Plant_parts : Stmt := inClass (topS 28) 2
abbrev s_Plant_gates : Stmt := inClass (topS 28) 3
abbrev s_Plant_causes : Stmt := inClass (topS 28) 4
abbrev s_Plant_top : Stmt := inClass (topS 28) 5
abbrev s_Run___init__ : Stmt := inClass (topS 40) 0
abbrev s_Run__enter : Stmt := inClass (topS 40) 1
abbrev s_Run_plant : Stmt := inClass (topS 40) 2
abbrev s_Run_state : Stmt := inClass (topS 40) 3
abbrev s_Run_stopped : Stmt := inClass (topS 40) 4
abbrev s_Run_truths : Stmt := inClass (topS 40) 5
abbrev s_Run_possible : Stmt := inClass (topS 40) 6
abbrev s_Run_do : Stmt := inClass (topS 40) 7
abbrev s_Run_do_all : Stmt := inClass (topS 40) 8
abbrev s_Run_copy : Stmt := inClass (topS 40) 9
theorem sc__wall : FnScope ["k"] ["k"] (defScope s__wall) := ⟨rfl, rfl, rfl, by decide +kernel, rfl, by decide +kernel, by decide +kernel⟩
theorem sc_is_name : FnScope ["value", "letter"] ["value"] (defScope s_is_name) := ⟨rfl, rfl, rfl, by decide +kernel, rfl, by decide +kernel, by decide +kernel⟩
theorem sc_is_integer : FnScope ["value"] ["value"] (defScope s_is_integer) := ⟨rfl, rfl, rfl, by decide +kernel, rfl, by decide +kernel, by decide +kernel⟩
theorem sc_is_list : FnScope ["value"] ["value"] (defScope s_is_list) := ⟨rfl, rfl, rfl, by decide +kernel, rfl, by decide +kernel, by decide +kernel⟩
theorem sc_all_differ : FnScope ["values", "at"] ["values"] (defScope s_all_differ) := ⟨rfl, rfl, rfl, by decide +kernel, rfl, by decide +kernel, by decide +kernel⟩
theorem sc_is_choice : FnScope ["value", "names", "item"] ["value", "names"] (defScope s_is_choice) := ⟨rfl, rfl, rfl, by decide +kernel, rfl, by decide +kernel, by decide +kernel⟩
theorem sc_is_part : FnScope ["value"] ["value"] (defScope s_is_part) := ⟨rfl, rfl, rfl, by decide +kernel, rfl, by decide +kernel, by decide +kernel⟩
theorem sc_are_parts : FnScope ["value", "item"] ["value"] (defScope s_are_parts) := ⟨rfl, rfl, rfl, by decide +kernel, rfl, by decide +kernel, by decide +kernel⟩
theorem sc_is_watch : FnScope ["word", "rest", "parts", "names"] ["word", "rest", "parts", "names"] (defScope s_is_watch) := ⟨rfl, rfl, rfl, by decide +kernel, rfl, by decide +kernel, by decide +kernel⟩
theorem sc_is_gate : FnScope ["value", "parts", "names"] ["value", "parts", "names"] (defScope s_is_gate) := ⟨rfl, rfl, rfl, by decide +kernel, rfl, by decide +kernel, by decide +kernel⟩
theorem sc_are_gates : FnScope ["value", "parts", "names", "item"] ["value", "parts"] (defScope s_are_gates) := ⟨rfl, rfl, rfl, by decide +kernel, rfl, by decide +kernel, by decide +kernel⟩
theorem sc_is_cause : FnScope ["value", "parts", "names"] ["value", "parts", "names"] (defScope s_is_cause) := ⟨rfl, rfl, rfl, by decide +kernel, rfl, by decide +kernel, by decide +kernel⟩
theorem sc_are_causes : FnScope ["value", "parts", "names", "item"] ["value", "parts", "names"] (defScope s_are_causes) := ⟨rfl, rfl, rfl, by decide +kernel, rfl, by decide +kernel, by decide +kernel⟩
theorem sc_take : FnScope ["gates", "uses", "failed", "now", "gate", "used", "free", "part"] ["gates", "uses", "failed"] (defScope s_take) := ⟨rfl, rfl, rfl, by decide +kernel, rfl, by decide +kernel, by decide +kernel⟩
theorem sc_first_uses : FnScope ["gates", "gate"] ["gates"] (defScope s_first_uses) := ⟨rfl, rfl, rfl, by decide +kernel, rfl, by decide +kernel, by decide +kernel⟩
theorem sc_gate_truth : FnScope ["gate", "truths", "uses", "word", "name"] ["gate", "truths", "uses"] (defScope s_gate_truth) := ⟨rfl, rfl, rfl, by decide +kernel, rfl, by decide +kernel, by decide +kernel⟩
theorem sc_tell : FnScope ["parts", "gates", "failed", "uses", "before", "truths", "gate", "name", "_"] ["parts", "gates", "failed", "uses", "before"] (defScope s_tell) := ⟨rfl, rfl, rfl, by decide +kernel, rfl, by decide +kernel, by decide +kernel⟩
theorem sc_is_top : FnScope ["value", "parts", "gates", "truths", "gate"] ["value", "parts", "gates"] (defScope s_is_top) := ⟨rfl, rfl, rfl, by decide +kernel, rfl, by decide +kernel, by decide +kernel⟩
theorem sc_beginning : FnScope ["plant"] ["plant"] (defScope s_beginning) := ⟨rfl, rfl, rfl, by decide +kernel, rfl, by decide +kernel, by decide +kernel⟩
theorem sc_truths_in : FnScope ["plant", "state", "failed", "uses", "held"] ["plant", "state"] (defScope s_truths_in) := ⟨rfl, rfl, rfl, by decide +kernel, rfl, by decide +kernel, by decide +kernel⟩
theorem sc_events_in : FnScope ["plant", "state", "failed", "uses", "_", "used", "events", "name", "kind", "part"] ["plant", "state"] (defScope s_events_in) := ⟨rfl, rfl, rfl, by decide +kernel, rfl, by decide +kernel, by decide +kernel⟩
theorem sc_came_first : FnScope ["gate", "now", "earlier", "name", "_", "one", "other"] ["gate", "now", "earlier"] (defScope s_came_first) := ⟨rfl, rfl, rfl, by decide +kernel, rfl, by decide +kernel, by decide +kernel⟩
theorem sc_truths_now : FnScope ["plant", "failed", "uses", "earlier"] ["plant", "failed", "uses", "earlier"] (defScope s_truths_now) := ⟨rfl, rfl, rfl, by decide +kernel, rfl, by decide +kernel, by decide +kernel⟩
theorem sc_state_of : FnScope ["plant", "failed", "uses", "truths", "held", "gate"] ["plant", "failed", "uses", "truths"] (defScope s_state_of) := ⟨rfl, rfl, rfl, by decide +kernel, rfl, by decide +kernel, by decide +kernel⟩
theorem sc_joining : FnScope ["plant", "now", "step_before", "line", "parts_joining", "trigger", "parts", "waiting", "name"] ["plant", "now", "step_before", "line"] (defScope s_joining) := ⟨rfl, rfl, rfl, by decide +kernel, rfl, by decide +kernel, by decide +kernel⟩
theorem sc_after_failure : FnScope ["plant", "state", "part", "earlier", "failed", "uses", "now", "fallen", "line", "name", "step_before"] ["plant", "state", "part"] (defScope s_after_failure) := ⟨rfl, rfl, rfl, by decide +kernel, rfl, by decide +kernel, by decide +kernel⟩
theorem sc_after_mend : FnScope ["plant", "state", "part", "failed", "uses", "name"] ["plant", "state", "part"] (defScope s_after_mend) := ⟨rfl, rfl, rfl, by decide +kernel, rfl, by decide +kernel, by decide +kernel⟩
theorem sc_after : FnScope ["plant", "state", "event", "word", "part"] ["plant", "state", "event"] (defScope s_after) := ⟨rfl, rfl, rfl, by decide +kernel, rfl, by decide +kernel, by decide +kernel⟩
theorem sc_at : FnScope ["plant", "state", "run"] ["plant", "state"] (defScope s_at) := ⟨rfl, rfl, rfl, by decide +kernel, rfl, by decide +kernel, by decide +kernel⟩
theorem sc__law_begin : FnScope ["script", "large", "cell"] ["script"] (defScope s__law_begin) := ⟨rfl, rfl, rfl, by decide +kernel, rfl, by decide +kernel, by decide +kernel⟩
theorem sc__law_take : FnScope ["draw", "size", "cell", "found"] ["draw", "size"] (defScope s__law_take) := ⟨rfl, rfl, rfl, by decide +kernel, rfl, by decide +kernel, by decide +kernel⟩
theorem sc__law_pick : FnScope ["draw", "some"] ["draw", "some"] (defScope s__law_pick) := ⟨rfl, rfl, rfl, by decide +kernel, rfl, by decide +kernel, by decide +kernel⟩
theorem sc__law_mixed : FnScope ["draw", "some", "left", "found"] ["draw", "some"] (defScope s__law_mixed) := ⟨rfl, rfl, rfl, by decide +kernel, rfl, by decide +kernel, by decide +kernel⟩
theorem sc__law_words : FnScope ["draw", "many", "menu", "found", "k", "word", "some", "j", "sign", "one"] ["draw", "many"] (defScope s__law_words) := ⟨rfl, rfl, rfl, by decide +kernel, rfl, by decide +kernel, by decide +kernel⟩
theorem sc__law_some : FnScope ["draw", "labels", "bound"] ["draw", "labels", "bound"] (defScope s__law_some) := ⟨rfl, rfl, rfl, by decide +kernel, rfl, by decide +kernel, by decide +kernel⟩
theorem sc__law_gate : FnScope ["draw", "name", "pieces", "labels", "word", "inputs"] ["draw", "name", "pieces", "labels"] (defScope s__law_gate) := ⟨rfl, rfl, rfl, by decide +kernel, rfl, by decide +kernel, by decide +kernel⟩
theorem sc__law_plant : FnScope ["draw", "most_parts", "most_gates", "most_causes", "words", "labels", "m", "k", "known", "inputs", "name", "gate"] ["draw", "most_parts", "most_gates", "most_causes"] (defScope s__law_plant) := ⟨rfl, rfl, rfl, by decide +kernel, rfl, by decide +kernel, by decide +kernel⟩
theorem sc__law_seat : FnScope ["m", "w", "gate", "free", "part"] ["m", "w"] (defScope s__law_seat) := ⟨rfl, rfl, rfl, by decide +kernel, rfl, by decide +kernel, by decide +kernel⟩
theorem sc__law_truth : FnScope ["w", "gate", "found", "begins", "inputs", "name", "truth"] ["w", "gate", "found"] (defScope s__law_truth) := ⟨rfl, rfl, rfl, by decide +kernel, rfl, by decide +kernel, by decide +kernel⟩
theorem sc__law_truths : FnScope ["m", "w", "found", "gate", "name", "kind"] ["m", "w"] (defScope s__law_truths) := ⟨rfl, rfl, rfl, by decide +kernel, rfl, by decide +kernel, by decide +kernel⟩
theorem sc__law_closed : FnScope ["m", "w", "found", "name"] ["m", "w"] (defScope s__law_closed) := ⟨rfl, rfl, rfl, by decide +kernel, rfl, by decide +kernel, by decide +kernel⟩
theorem sc__law_fresh : FnScope ["m", "w"] ["m"] (defScope s__law_fresh) := ⟨rfl, rfl, rfl, by decide +kernel, rfl, by decide +kernel, by decide +kernel⟩
theorem sc__law_event : FnScope ["m", "w", "deed", "line", "found", "old", "now", "trigger", "pieces", "name", "part"] ["m", "w", "deed"] (defScope s__law_event) := ⟨rfl, rfl, rfl, by decide +kernel, rfl, by decide +kernel, by decide +kernel⟩
theorem sc__law_can : FnScope ["m", "w", "found", "part", "kind"] ["m", "w"] (defScope s__law_can) := ⟨rfl, rfl, rfl, by decide +kernel, rfl, by decide +kernel, by decide +kernel⟩
theorem sc__law_led : FnScope ["m", "row", "w", "deed"] ["m", "row"] (defScope s__law_led) := ⟨rfl, rfl, rfl, by decide +kernel, rfl, by decide +kernel, by decide +kernel⟩
theorem sc__law_row : FnScope ["draw", "m", "many", "w", "found", "k", "some", "fails", "deed"] ["draw", "m", "many"] (defScope s__law_row) := ⟨rfl, rfl, rfl, by decide +kernel, rfl, by decide +kernel, by decide +kernel⟩
theorem sc__law_made : FnScope ["m"] ["m"] (defScope s__law_made) := ⟨rfl, rfl, rfl, by decide +kernel, rfl, by decide +kernel, by decide +kernel⟩
theorem sc__law_caught : FnScope ["work", "found", "e"] ["work"] (defScope s__law_caught) := ⟨rfl, rfl, rfl, by decide +kernel, rfl, by decide +kernel, by decide +kernel⟩
theorem sc__law_any_event : FnScope ["draw", "m", "w", "part", "name", "some", "can"] ["draw", "m", "w"] (defScope s__law_any_event) := ⟨rfl, rfl, rfl, by decide +kernel, rfl, by decide +kernel, by decide +kernel⟩
theorem sc__law_index : FnScope ["m", "row", "some", "w", "spot", "one"] ["m", "row", "some"] (defScope s__law_index) := ⟨rfl, rfl, rfl, by decide +kernel, rfl, by decide +kernel, by decide +kernel⟩
theorem sc_law : FnScope ["script", "draw", "turn", "m", "row", "run", "w", "shown", "lap", "one", "is_good", "some", "due", "odd", "k"] ["script"] (defScope s_law) := ⟨rfl, rfl, rfl, by decide +kernel, rfl, by decide +kernel, by decide +kernel⟩
theorem sc_Plant___init__ : FnScope ["self", "parts", "gates", "causes", "top", "names", "part", "gate"] ["self", "parts", "gates", "causes", "top"] (defScope s_Plant___init__) := ⟨rfl, rfl, rfl, by decide +kernel, rfl, by decide +kernel, by decide +kernel⟩
theorem sc_Plant___eq__ : FnScope ["self", "other"] ["self", "other"] (defScope s_Plant___eq__) := ⟨rfl, rfl, rfl, by decide +kernel, rfl, by decide +kernel, by decide +kernel⟩
theorem sc_Plant_parts : FnScope ["self"] ["self"] (defScope s_Plant_parts) := ⟨rfl, rfl, rfl, by decide +kernel, rfl, by decide +kernel, by decide +kernel⟩
theorem sc_Plant_gates : FnScope ["self"] ["self"] (defScope s_Plant_gates) := ⟨rfl, rfl, rfl, by decide +kernel, rfl, by decide +kernel, by decide +kernel⟩
theorem sc_Plant_causes : FnScope ["self"] ["self"] (defScope s_Plant_causes) := ⟨rfl, rfl, rfl, by decide +kernel, rfl, by decide +kernel, by decide +kernel⟩
theorem sc_Plant_top : FnScope ["self"] ["self"] (defScope s_Plant_top) := ⟨rfl, rfl, rfl, by decide +kernel, rfl, by decide +kernel, by decide +kernel⟩
theorem sc_Run___init__ : FnScope ["self", "plant"] ["self", "plant"] (defScope s_Run___init__) := ⟨rfl, rfl, rfl, by decide +kernel, rfl, by decide +kernel, by decide +kernel⟩
theorem sc_Run__enter : FnScope ["self", "state"] ["self", "state"] (defScope s_Run__enter) := ⟨rfl, rfl, rfl, by decide +kernel, rfl, by decide +kernel, by decide +kernel⟩
theorem sc_Run_plant : FnScope ["self"] ["self"] (defScope s_Run_plant) := ⟨rfl, rfl, rfl, by decide +kernel, rfl, by decide +kernel, by decide +kernel⟩
theorem sc_Run_state : FnScope ["self"] ["self"] (defScope s_Run_state) := ⟨rfl, rfl, rfl, by decide +kernel, rfl, by decide +kernel, by decide +kernel⟩
theorem sc_Run_stopped : FnScope ["self"] ["self"] (defScope s_Run_stopped) := ⟨rfl, rfl, rfl, by decide +kernel, rfl, by decide +kernel, by decide +kernel⟩
theorem sc_Run_truths : FnScope ["self", "told", "name"] ["self"] (defScope s_Run_truths) := ⟨rfl, rfl, rfl, by decide +kernel, rfl, by decide +kernel, by decide +kernel⟩
theorem sc_Run_possible : FnScope ["self"] ["self"] (defScope s_Run_possible) := ⟨rfl, rfl, rfl, by decide +kernel, rfl, by decide +kernel, by decide +kernel⟩
theorem sc_Run_do : FnScope ["self", "event"] ["self", "event"] (defScope s_Run_do) := ⟨rfl, rfl, rfl, by decide +kernel, rfl, by decide +kernel, by decide +kernel⟩
theorem sc_Run_do_all : FnScope ["self", "events", "state", "told", "index", "event", "fallen"] ["self", "events"] (defScope s_Run_do_all) := ⟨rfl, rfl, rfl, by decide +kernel, rfl, by decide +kernel, by decide +kernel⟩
theorem sc_Run_copy : FnScope ["self"] ["self"] (defScope s_Run_copy) := ⟨rfl, rfl, rfl, by decide +kernel, rfl, by decide +kernel, by decide +kernel⟩
end Kf

set_option Elab.async false
set_option linter.all false
set_option maxRecDepth 100000
set_option maxHeartbeats 2000000
namespace Kf
open PySem PySem.Spec PyProof.Rows L2
/-! ### the draw -/
def dkv (L C : Addr) (r t m : Int) : List (Key × V) := [(.inr "large", .ref L), (.inr "cells", .ref C), (.inr "rest", .int r), (.inr "turn", .int t), (.inr "mix", .int m)]
theorem put_rest {L C : Addr} {r t m r' : Int} : putK (dkv L C r t m) (.inr "rest") (.int r') = dkv L C r' t m := by with_unfolding_all rfl
theorem put_turn {L C : Addr} {r t m r' : Int} : putK (dkv L C r t m) (.inr "turn") (.int r') = dkv L C r r' m := by with_unfolding_all rfl
theorem put_mix {L C : Addr} {r t m r' : Int} : putK (dkv L C r t m) (.inr "mix") (.int r') = dkv L C r t r' := by with_unfolding_all rfl
theorem val_large {L C : Addr} {r t m : Int} : valV (dkv L C r t m) (.inr "large") = some (.ref L) := by with_unfolding_all rfl
theorem val_cells {L C : Addr} {r t m : Int} : valV (dkv L C r t m) (.inr "cells") = some (.ref C) := by with_unfolding_all rfl
theorem val_rest {L C : Addr} {r t m : Int} : valV (dkv L C r t m) (.inr "rest") = some (.int r) := by with_unfolding_all rfl
theorem val_turn {L C : Addr} {r t m : Int} : valV (dkv L C r t m) (.inr "turn") = some (.int t) := by with_unfolding_all rfl
theorem val_mix {L C : Addr} {r t m : Int} : valV (dkv L C r t m) (.inr "mix") = some (.int m) := by with_unfolding_all rfl
/-- the draw at d, its large numbers at L, its cells at C -/
structure Drw (H : Hp) (d L C : Addr) (ls cs : List Int) (r t m : Int) : Prop where
  hd : H d = some (.dK (dkv L C r t m))
  hL : H L = some (.lst (ls.map V.int))
  hC : H C = some (.lst (cs.map V.int))
  ne : L ≠ C
  lpos : ∀ x ∈ ls, 0 ≤ x
  llen : ls.length ≤ 63
  clen : cs.length ≤ 63
  r0 : 0 ≤ r
  m0 : 0 ≤ m
  m1 : m < 2147483629
def Dr (H : Hp) (d L C : Addr) : Prop := ∃ ls cs r t m, Drw H d L C ls cs r t m
/-- all else is kept -/
def Kp (d L : Addr) (H H' : Hp) : Prop := ∀ b o, H b = some o → b ≠ d → b ≠ L → H' b = some o
theorem Kp.refl {d L : Addr} {H : Hp} : Kp d L H H := fun _ _ h _ _ => h
theorem Kp.trans {d L : Addr} {H H1 H2 : Hp} (a : Kp d L H H1) (b : Kp d L H1 H2) : Kp d L H H2 := fun c o h n1 n2 => b c o (a c o h n1 n2) n1 n2
theorem Kp.new {d L p : Addr} {H : Hp} {o : HO} (hp : H p = none) : Kp d L H (upd H p o) := fun b u h _ _ => by
  rw [upd_ne (ne_of_none h hp)]
  exact h
theorem Kp.dset {d L : Addr} {H : Hp} {o : HO} : Kp d L H (upd H d o) := fun b u h n _ => by
  rw [upd_ne n]
  exact h
theorem Kp.lset {d L : Addr} {H : Hp} {o : HO} : Kp d L H (upd H L o) := fun b u h _ n => by
  rw [upd_ne n]
  exact h
section
variable {H : Hp} {d L C : Addr} {ls cs : List Int} {r t m : Int}
theorem Drw.dL (D : Drw H d L C ls cs r t m) : L ≠ d := ne_of D.hL D.hd (by intro z; cases z)
theorem Drw.dC (D : Drw H d L C ls cs r t m) : C ≠ d := ne_of D.hC D.hd (by intro z; cases z)
theorem Drw.new (D : Drw H d L C ls cs r t m) {p : Addr} {o : HO} (hp : H p = none) : Drw (upd H p o) d L C ls cs r t m :=
  { D with hd := by rw [upd_ne (ne_of_none D.hd hp)]; exact D.hd, hL := by rw [upd_ne (ne_of_none D.hL hp)]; exact D.hL, hC := by rw [upd_ne (ne_of_none D.hC hp)]; exact D.hC }
theorem Drw.rest (D : Drw H d L C ls cs r t m) {r' : Int} (h : 0 ≤ r') : Drw (upd H d (.dK (putK (dkv L C r t m) (.inr "rest") (.int r')))) d L C ls cs r' t m :=
  { D with hd := by rw [upd_same, put_rest], hL := by rw [upd_ne D.dL]; exact D.hL, hC := by rw [upd_ne D.dC]; exact D.hC, r0 := h }
theorem Drw.turn (D : Drw H d L C ls cs r t m) {t' : Int} : Drw (upd H d (.dK (putK (dkv L C r t m) (.inr "turn") (.int t')))) d L C ls cs r t' m :=
  { D with hd := by rw [upd_same, put_turn], hL := by rw [upd_ne D.dL]; exact D.hL, hC := by rw [upd_ne D.dC]; exact D.hC }
theorem Drw.mix (D : Drw H d L C ls cs r t m) {m' : Int} (h0 : 0 ≤ m') (h1 : m' < 2147483629) : Drw (upd H d (.dK (putK (dkv L C r t m) (.inr "mix") (.int m')))) d L C ls cs r t m' :=
  { D with hd := by rw [upd_same, put_mix], hL := by rw [upd_ne D.dL]; exact D.hL, hC := by rw [upd_ne D.dC]; exact D.hC, m0 := h0, m1 := h1 }
theorem Drw.pop {x : Int} (D : Drw H d L C (x :: ls) cs r t m) : Drw (upd H L (.lst (ls.map V.int))) d L C ls cs r t m :=
  { D with hd := by rw [upd_ne D.dL.symm]; exact D.hd, hL := upd_same, hC := by rw [upd_ne D.ne.symm]; exact D.hC, lpos := fun y hy => D.lpos y (List.mem_cons_of_mem _ hy), llen := Nat.le_of_succ_le D.llen }
theorem Drw.gL (D : Drw H d L C ls cs r t m) : DGet H d (.str "large") (some (.ref L)) := by have q := DGet.k (k := .inr "large") D.hd; rw [val_large] at q; exact q
theorem Drw.gC (D : Drw H d L C ls cs r t m) : DGet H d (.str "cells") (some (.ref C)) := by have q := DGet.k (k := .inr "cells") D.hd; rw [val_cells] at q; exact q
theorem Drw.gR (D : Drw H d L C ls cs r t m) : DGet H d (.str "rest") (some (.int r)) := by have q := DGet.k (k := .inr "rest") D.hd; rw [val_rest] at q; exact q
theorem Drw.gT (D : Drw H d L C ls cs r t m) : DGet H d (.str "turn") (some (.int t)) := by have q := DGet.k (k := .inr "turn") D.hd; rw [val_turn] at q; exact q
theorem Drw.gM (D : Drw H d L C ls cs r t m) : DGet H d (.str "mix") (some (.int m)) := by have q := DGet.k (k := .inr "mix") D.hd; rw [val_mix] at q; exact q
theorem Drw.sz : (dkv L C r t m).length < sizeLine := small1000 (by show 5 ≤ 1000; decide)
theorem Drw.pR (D : Drw H d L C ls cs r t m) (v : V) : DPut H d (.str "rest") v (upd H d (.dK (putK (dkv L C r t m) (.inr "rest") v))) := DPut.k (k := .inr "rest") D.hd Drw.sz
theorem Drw.pT (D : Drw H d L C ls cs r t m) (v : V) : DPut H d (.str "turn") v (upd H d (.dK (putK (dkv L C r t m) (.inr "turn") v))) := DPut.k (k := .inr "turn") D.hd Drw.sz
theorem Drw.pM (D : Drw H d L C ls cs r t m) (v : V) : DPut H d (.str "mix") v (upd H d (.dK (putK (dkv L C r t m) (.inr "mix") v))) := DPut.k (k := .inr "mix") D.hd Drw.sz
end
theorem dpAll_ints {K : PySem.W.Frag} {H : Hp} : ∀ ns : List Int, DpAll K H (ns.map V.int) (ns.map PyData.int)
  | [] => .nil
  | n :: r => .cons (.int n) (dpAll_ints r)
theorem canAll_ints : ∀ ns : List Int, PyData.canLayAll0 (ns.map PyData.int) = true
  | [] => by simp [PyData.canLayAll0]
  | n :: r => by simp [PyData.canLayAll0, PyData.canLay0, canAll_ints r]
theorem depthAll_ints : ∀ ns : List Int, PyData.depthAll (ns.map PyData.int) ≤ 1
  | [] => by simp [PyData.depthAll]
  | n :: r => by
    have := depthAll_ints r
    simp [PyData.depthAll, PyData.depth]
    omega
theorem shaped_ints (ns : List Int) : SeqAt.shaped (.list (ns.map PyData.int)) = true := by
  have h1 := canAll_ints ns
  have h2 := depthAll_ints ns
  simp [SeqAt.shaped, PyData.canLay0, PyData.depth, h1]
  omega
theorem eqv_nil : ∀ ns : List Int, PyData.eqv (.list (ns.map PyData.int)) (.list []) = ns.isEmpty
  | [] => by simp [PyData.eqv, PyData.eqvAll]
  | n :: r => by simp [PyData.eqv, PyData.eqvAll]
/-- draw[size] taken: any number below size -/
def spTake : Sp := fun vs H Q _ => ∃ (d L C : Addr) (n : Int), vs = [.ref d, .int n] ∧ Dr H d L C ∧ 0 < n ∧ n < 1073741824 ∧ ∀ H' k, Dr H' d L C → Kp d L H H' → 0 ≤ k → k < n → Q (.int k) H'
/-- what is known between two statements, said once -/
theorem seq_of {t u : TS} {D : Ends} {σ : L2.St} {H : Hp} (Pv : L2.St → Hp → Prop) (h : ∀ σ' H', Pv σ' H' → u D σ' H') (g : (∀ σ' H', Pv σ' H' → u D σ' H') → t { D with nx := u D } σ H) : tSeq t u D σ H := g h
section
variable {P : Program} {w : World} {K : PySem.W.Frag} {mg : Str → Option Value} {base : Heap}
theorem ok_take {f : Addr} {fd : FuncData} {k : Nat} (F : Fun K "_law_take" "_law_take" s__law_take f fd) (mi : mg "int" = none) (mdv : mg "divmod" = none) : FnOk P w K mg base CX0 (k + 1) f fd ["draw", "size"] spTake := by
  refine F.ok sc__law_take (fun vs H Q E h => ?_) (fun cdv A outer s H vs Q E hr h => ?_)
  · obtain ⟨d, L, C, n, rfl, _⟩ := h
    rfl
  · obtain ⟨d, L, C, n, rfl, ⟨ls, cs, r, t, m, D⟩, hn0, hn1, q⟩ := h
    have hu := hu_of hr
    have hu64 := hr.units
    refine ⟨_, pss_cons (ps_if (PW.pt (pw_and (pt_cmpR op_eq (pe_dget hu (pv 0) pe_str (fun _ _ => rfl)) pe_int (nomark _)) (pw_and1 (pt_cmpR (op_neD hu64) (pe_dget hu (pv 0) pe_str (fun _ _ => rfl)) (pe_lst pa_nil) (nomark _)))))
        (pss_one (ps_dput hu (pv 0) pe_str (pe_bm PySem.F.plainAttrs_list PySem.F.slot_list_pop PySem.F.type_list_pop mt_popAt (pe_dget hu (pv 0) pe_str (fun _ _ => rfl)) (pa_cons pe_int pa_nil)) rfl))
        (pss_one (ps_if (pt_cmpR op_eq (pe_dget hu (pv 0) pe_str (fun _ _ => rfl)) pe_int (nomark _))
          (pss_cons (ps_dput hu (pv 0) pe_str (pe_op op_add (pe_dget hu (pv 0) pe_str (fun _ _ => rfl)) pe_int) rfl)
          (pss_cons (ps_for PassesOwn.never rfl (pi_list (pe_op op_cat (pe_lst (pa_cons (pe_dget hu (pv 0) pe_str (fun _ _ => rfl)) pa_nil)) (pe_dget hu (pv 0) pe_str (fun _ _ => rfl)))) (pg_name (i := 2) sc__law_take.nd rfl (.inl rfl))
            (pss_one (ps_dput hu (pv 0) pe_str (pe_op op_mod (pe_callTy call_int1 (by rfl) mi (by decide +kernel) (pa_cons (pe_op op_add (pe_op op_add (pe_op op_mul (pe_dget hu (pv 0) pe_str (fun _ _ => rfl)) pe_int) (pe_op op_mul (pv 2) pe_int)) pe_int) pa_nil)) pe_int) rfl)))
          (pss_one (ps_dput hu (pv 0) pe_str (pe_op op_mod (pe_callTy call_int1 (by rfl) mi (by decide +kernel) (pa_cons (pe_op op_pow (pe_dget hu (pv 0) pe_str (fun _ _ => rfl)) pe_int) pa_nil)) pe_int) rfl))))
          pss_nil)))
      (pss_cons (ps_asg (pe_callB call_divmod (by rfl) mdv (by decide +kernel) (pa_cons (pe_dget hu (pv 0) pe_str (fun _ _ => rfl)) (pa_cons (pv 1) pa_nil))) (pg_tup rfl (pgs_cons (pg_sub (pv 0) pe_str (set_dict hu)) (pgs_cons (pg_name (i := 3) sc__law_take.nd rfl (.inl rfl)) pgs_nil))))
      (pss_one (ps_ret (pv 3)))), ?_⟩
    refine seq_of (fun σ' H1 => ∃ y2 y3 ls r t m, σ' = [some (.ref d), some (.int n), y2, y3] ∧ Drw H1 d L C ls cs r t m ∧ Kp d L H H1) (fun σ' H1 p => ?_) (fun fin => ?_)
    · obtain ⟨y2, y3, ls, r, t, m, rfl, D, kp⟩ := p
      refine ⟨.ref d, rfl, d, .int r, rfl, D.gR, .int n, rfl, r, n, rfl, ⟨hn0, hn1⟩, fun p np => ?_⟩
      have D1 := D.new (o := .tup [.int (r / n), .int (r % n)]) np
      have h0 : 0 ≤ r / n := Int.ediv_nonneg D.r0 (Int.le_of_lt hn0)
      refine ⟨p, [.int (r / n), .int (r % n)], rfl, .of upd_same, rfl, .int (r / n), _, rfl, ⟨.ref d, rfl, d, _, rfl, D1.pR _, .int (r % n), [], rfl, rfl, .int (r % n), rfl, ?_⟩⟩
      exact q _ _ ⟨_, _, _, _, _, D1.rest h0⟩ ((kp.trans (Kp.new np)).trans Kp.dset) (Int.emod_nonneg _ (by omega)) (Int.emod_lt_of_pos _ hn0)
    · refine ⟨.ref d, rfl, d, .int r, rfl, D.gR, rfl, _, rfl, ite2 (fun e => ?_) (fun e => ?_)⟩
      · -- rest is 0: are there large numbers?
        have er : r = 0 := V.int.inj (of_decide_eq_true e)
        subst er
        refine ⟨.ref d, rfl, d, .ref L, rfl, D.gL, Nat.zero_le _, fun p np => ?_⟩
        have D1 := D.new (o := .lst []) np
        have k1 : Kp d L H (upd H p (.lst [])) := Kp.new np
        refine ⟨.list (ls.map PyData.int), .list [], .lst (.of D1.hL) (dpAll_ints ls), .lst (.of upd_same) .nil, shaped_ints ls, shaped_ints [], ?_⟩
        rw [eqv_nil]
        refine ⟨_, rfl, ite2 (fun e => ?_) (fun e => ?_)⟩
        · -- the first of them is taken
          obtain ⟨x, xs, rfl⟩ : ∃ x xs, ls = x :: xs := by
            cases ls with
            | nil => simp at e
            | cons x xs => exact ⟨x, xs, rfl⟩
          have nd : d ≠ L := D1.dL.symm
          refine ⟨.ref d, rfl, d, .ref L, rfl, D1.gL, .inl ⟨rfl, _, .of D1.hL⟩, L, _, 0, 0, .int x, rfl, rfl, D1.hL, by decide, by decide, ?_, rfl, ?_⟩
          · exact PySem.StrLaws.seqIndex_nonneg (by decide) (by rw [List.length_map, List.length_cons]; omega)
          · have e0 : ((x :: xs).map V.int).eraseIdx 0 = xs.map V.int := rfl
            rw [e0]
            have D2 := D1.pop
            refine ⟨.ref d, rfl, d, _, rfl, D2.pR _, fin _ _ ⟨_, _, xs, x, t, m, rfl, D2.rest (D.lpos x (List.mem_cons_self ..)), (k1.trans Kp.lset).trans Kp.dset⟩⟩
        · -- a new turn
          refine ⟨.ref d, rfl, d, .int 0, rfl, D1.gR, rfl, _, rfl, ite2 (fun e => ?_) (fun e => ?_)⟩
          · refine ⟨.ref d, rfl, d, .int t, rfl, D1.gT, t, 1, rfl, rfl, .ref d, rfl, d, _, rfl, D1.pT _, ?_⟩
            have D2 := D1.turn (t' := t + 1)
            have k2 := k1.trans (Kp.dset (d := d) (L := L) (o := .dK (putK (dkv L C 0 t m) (.inr "turn") (.int (t + 1)))))
            refine ⟨.ref d, rfl, d, .int (t + 1), rfl, D2.gT, (by show 1 ≤ sizeLine; decide), fun l nl => ?_⟩
            have D3 := D2.new (o := .lst [.int (t + 1)]) nl
            have k3 := k2.trans (Kp.new (o := .lst [.int (t + 1)]) nl)
            refine ⟨.ref d, rfl, d, .ref C, rfl, D3.gC, l, C, _, _, rfl, rfl, upd_same, D3.hC, ?_, fun c nc => ?_⟩
            · have := D.clen
              rw [List.length_map, sizeLine_eq]
              show 1 + cs.length ≤ 16777216
              omega
            have D4 := D3.new (o := .lst ([V.int (t + 1)] ++ cs.map V.int)) nc
            have k4 := k3.trans (Kp.new (o := .lst ([V.int (t + 1)] ++ cs.map V.int)) nc)
            have nd : c ≠ d := (ne_of_none D3.hd nc).symm
            refine ⟨c, rfl, ⟨_, .of upd_same⟩, for_list (xs := [V.int (t + 1)] ++ cs.map V.int) (fun i σ H2 => ∃ y2 y3 m', σ = [some (.ref d), some (.int n), y2, y3] ∧ Drw H2 d L C ls cs 0 (t + 1) m' ∧ Kp d L H H2 ∧ H2 c = some (.lst ([V.int (t + 1)] ++ cs.map V.int)))
              ⟨_, _, m, rfl, D4, k4, upd_same⟩ (fun i σ H2 _ p => ?_) (fun i x σ H2 hx p => ?_) (fun σ H2 p => ?_)⟩
            · obtain ⟨_, _, _, _, _, _, hc⟩ := p
              exact .of hc
            · obtain ⟨y2, y3, m', rfl, D5, k5, hc⟩ := p
              have ex : ∃ z : Int, x = .int z := by
                have hm := List.mem_of_getElem? hx
                rcases List.mem_append.mp hm with h | h
                · exact ⟨_, List.mem_singleton.mp h⟩
                · obtain ⟨z, _, e⟩ := List.mem_map.mp h
                  exact ⟨z, e.symm⟩
              obtain ⟨z, rfl⟩ := ex
              refine ⟨.ref d, rfl, d, .int m', rfl, D5.gM, m', 69621, rfl, rfl, .inr ⟨by decide, by decide⟩, .int z, rfl, z, 48271, rfl, rfl, .inr ⟨by decide, by decide⟩, _, _, rfl, rfl, _, 12345, rfl, rfl, .inl ⟨_, rfl, _, 2147483629, rfl, rfl, by show (0 : Int) < 2147483629; decide, .ref d, rfl, d, _, rfl, D5.pM _, ?_⟩⟩
              exact ⟨_, _, _, rfl, D5.mix (Int.emod_nonneg _ (by decide)) (Int.emod_lt_of_pos _ (by decide)), k5.trans Kp.dset, by rw [upd_ne nd]; exact hc⟩
            · obtain ⟨y2, y3, m', rfl, D5, k5, _⟩ := p
              have h0 := D5.m0
              have h1 := D5.m1
              refine ⟨.ref d, rfl, d, .int m', rfl, D5.gM, m', 5, rfl, rfl, ⟨by decide, by decide, by omega⟩, .inl ⟨_, rfl, _, 2305843009213693951, rfl, rfl, by show (0 : Int) < 2305843009213693951; decide, .ref d, rfl, d, _, rfl, D5.pR _, fin _ _ ⟨_, _, ls, _, _, _, rfl, D5.rest (Int.emod_nonneg _ (by decide)), k5.trans Kp.dset⟩⟩⟩
          · exact absurd (decide_eq_true rfl) e
      · refine ⟨.ref d, rfl, d, .int r, rfl, D.gR, rfl, _, rfl, ite2 (fun e2 => absurd e2 e) (fun e2 => ?_)⟩
        exact fin _ _ ⟨_, _, ls, r, t, m, rfl, D, Kp.refl⟩

/-! ### the beginning -/
/-- a draw from a list of ints -/
def spBegin (K : PySem.W.Frag) : Sp := fun vs H Q _ => ∃ (a : Addr) (ns : List Int), vs = [.ref a] ∧ SqL K H a (ns.map V.int) ∧ ns.length ≤ 63 ∧ ∀ H' d L C, Dr H' d L C → (∀ b o, H b = some o → H' b = some o) → H d = none → H L = none → H C = none → Q (.ref d) H'
theorem ok_begin {f : Addr} {fd : FuncData} {k : Nat} (F : Fun K "_law_begin" "_law_begin" s__law_begin f fd) (ma : mg "abs" = none) (ml : mg "list" = none) : FnOk P w K mg base CX0 (k + 1) f fd ["script"] (spBegin K) := by
  refine F.ok sc__law_begin (fun vs H Q E h => ?_) (fun cdv A outer s H vs Q E hr h => ?_)
  · obtain ⟨a, ns, rfl, _⟩ := h
    rfl
  · obtain ⟨a, ns, rfl, hS, hlen, q⟩ := h
    refine ⟨_, pss_cons (ps_setLc (i := 1) (own := [("cell", 2)]) (g := gName 2) (by rfl) sc__law_begin.nd rfl rfl (sw_true rfl rfl rfl (by decide +kernel)) (pi_list (pv 0)) (blkOk_by (own := [("cell", 2)]) (N := ["script", "large", "cell"]) (sc := defScope s__law_begin) (by decide +kernel))
          (fun _ _ _ _ _ => pg_name (i := 2) sc__law_begin.nd rfl (Or.inl rfl))
          (fun _ _ _ _ _ => pts_one (pt_cmpR op_ge (pe_callB call_abs (by rfl) ma (by decide +kernel) (pa_cons (pv 2) pa_nil)) (pe_op op_pow pe_int pe_int) (nomark _)))
          (fun _ _ _ _ _ => pe_callB call_abs (by rfl) ma (by decide +kernel) (pa_cons (pv 2) pa_nil)))
      (pss_one (ps_ret (pe_disp (pps_cons pe_str (pv 1) (pps_cons pe_str (pe_callTy call_list_of (by rfl) ml (by decide +kernel) (pa_cons (pv 0) pa_nil)) (pps_cons pe_str pe_int (pps_cons pe_str pe_int (pps_cons pe_str pe_int pps_nil))))) (by rfl) (by rfl) (fun z => by cases z) (by decide)))), ?_⟩
    refine ⟨.ref a, rfl, a, rfl, ⟨_, hS⟩, fun D nD => ?_⟩
    have aD : ∀ {H2 : Hp}, Same H H2 → SqL K H2 a (ns.map V.int) := fun sm => sm.seq hS
    refine lc_list (xs := ns.map V.int) (fun i H2 => Same H H2 ∧ ∃ ls : List Int, H2 D = some (.lst (ls.map V.int)) ∧ (∀ x ∈ ls, 0 ≤ x) ∧ ls.length ≤ i) ⟨?_, [], upd_same, fun x hx => (by cases hx), Nat.le_refl _⟩ (fun i H2 _ p => aD p.1) (fun i x H2 hx p => ?_) (fun H2 p => ?_)
    · intro b o e
      rw [upd_ne (ne_of_none e nD)]
      exact e
    · obtain ⟨sm, ls, hD, hpos, hl⟩ := p
      obtain ⟨z, _, rfl⟩ := List.mem_map.mp (List.mem_of_getElem? hx)
      have hi : i < ns.length := by
        have := (List.getElem?_eq_some_iff.mp hx).1
        rw [List.length_map] at this
        exact this
      refine ⟨rfl, .int z, rfl, z, rfl, 10, 18, rfl, rfl, ⟨by decide, by decide, by decide⟩, _, _, rfl, rfl, _, rfl, ite2 (fun e => ?_) (fun e => ?_)⟩
      · refine ⟨.int z, rfl, z, rfl, _, hD, ?_, ?_, ls ++ [if z < 0 then -z else z], ?_, fun x hx => ?_, ?_⟩
        · rw [List.length_map, sizeLine_eq]
          omega
        · intro b o e
          rw [upd_ne (ne_of_none e nD)]
          exact sm b o e
        · rw [upd_same, List.map_append]
          rfl
        · rcases List.mem_append.mp hx with h | h
          · exact hpos x h
          · rw [List.mem_singleton.mp h]
            split <;> omega
        · rw [List.length_append]
          show ls.length + 1 ≤ i + 1
          omega
      · exact ⟨sm, ls, hD, hpos, Nat.le_succ_of_le hl⟩
    · obtain ⟨sm, ls, hD, hpos, hl⟩ := p
      rw [List.length_map] at hl
      intro d nd
      have hDd : D ≠ d := ne_of_none hD nd
      have s1 : Same H2 (upd H2 d (.dK [])) := fun b o e => by
        rw [upd_ne (ne_of_none e nd)]
        exact e
      have aH : SqL K (upd H2 d (.dK [])) a (ns.map V.int) := s1.seq (sm.seq hS)
      refine ⟨.ref D, rfl, .ref a, rfl, a, _, rfl, .inl aH, fun C nC => ?_⟩
      have hCd : d ≠ C := ne_of_none (upd_same (H := H2) (a := d)) nC
      have nC2 : H2 C = none := by
        rw [upd_ne hCd.symm] at nC
        exact nC
      have hDC : D ≠ C := ne_of_none hD nC2
      refine ⟨by rw [upd_ne hCd, upd_same], [(.inr "large", .ref D), (.inr "cells", .ref C), (.inr "rest", .int 0), (.inr "turn", .int 0), (.inr "mix", .int 7)], rfl, by show 5 ≤ 15; decide, ?_⟩
      have em : mergeK [] [((.inr "large" : Key), V.ref D), (.inr "cells", .ref C), (.inr "rest", .int 0), (.inr "turn", .int 0), (.inr "mix", .int 7)] = dkv D C 0 0 7 := by with_unfolding_all rfl
      rw [em]
      refine q _ d D C ⟨ls, ns, 0, 0, 7, ⟨upd_same, ?_, ?_, hDC, hpos, by omega, hlen, by decide, by decide, by decide⟩⟩ (fun b o e => ?_) ?_ nD ?_
      · rw [upd_ne hDd, upd_ne hDC, upd_ne hDd]
        exact hD
      · rw [upd_ne hCd.symm, upd_same]
      · have e2 := sm b o e
        rw [upd_ne (ne_of_none e2 nd), upd_ne (ne_of_none e2 nC2), upd_ne (ne_of_none e2 nd)]
        exact e2
      · exact sm.free nd
      · exact sm.free nC2
/-! ### one of some -/
/-- some[draw] -/
def spPick (K : PySem.W.Frag) : Sp := fun vs H Q _ => ∃ (d L C a : Addr) (xs : List V), vs = [.ref d, .ref a] ∧ Dr H d L C ∧ a ≠ L ∧ SqL K H a xs ∧ 0 < xs.length ∧ xs.length < 1000 ∧ ∀ H' x, Dr H' d L C → Kp d L H H' → x ∈ xs → Q x H'
theorem Kp.seq {d L a : Addr} {H H' : Hp} {xs : List V} {C : Addr} (kp : Kp d L H H') (D : Dr H d L C) (n : a ≠ L) (h : SqL K H a xs) : SqL K H' a xs := by
  obtain ⟨ls, cs, r, t, m, D⟩ := D
  rcases h with (h | ⟨o, h⟩) | h
  · exact .inl (.inl (kp _ _ h (ne_of h D.hd (by intro z; cases z)) n))
  · exact .inl (.inr ⟨o, kp _ _ h (ne_of h D.hd (by intro z; cases z)) n⟩)
  · exact .inr h
theorem ok_pick {f fT : Addr} {fd fdT : FuncData} {k : Nat} (F : Fun K "_law_pick" "_law_pick" s__law_pick f fd) (GT : FnOk P w K mg base CX0 k fT fdT ["draw", "size"] spTake) (bT : Binds K fdT ["draw", "size"] []) (kT : PySem.W.keepIn K (.ref fT) = true) (gT : mg "_law_take" = some (.ref fT)) (ml : mg "len" = none) :
    FnOk P w K mg base CX0 (k + 1) f fd ["draw", "some"] (spPick K) := by
  refine F.ok sc__law_pick (fun vs H Q E h => ?_) (fun cdv A outer s H vs Q E hr h => ?_)
  · obtain ⟨d, L, C, a, xs, rfl, _⟩ := h
    rfl
  · obtain ⟨d, L, C, a, xs, rfl, D, n, hS, h0, h1, q⟩ := h
    refine ⟨_, pss_one (ps_ret (pe_ix ix_list (pv 1) (pe_call GT hr (by rfl) gT kT bT .nil pass0 (pa_cons (pv 0) (pa_cons (pe_callB call_len_seq (by rfl) ml PySem.boot_len (pa_cons (pv 1) pa_nil)) pa_nil))) (fun _ _ => rfl))), ?_⟩
    refine ⟨.ref a, rfl, .ref d, rfl, .ref a, rfl, a, xs, rfl, .inl hS, d, L, C, xs.length, rfl, D, by omega, by omega, fun H' k D' kp hk0 hk1 => ?_⟩
    obtain ⟨j, rfl⟩ : ∃ j : Nat, k = (j : Int) := ⟨k.toNat, by omega⟩
    have hj : j < xs.length := by omega
    refine ⟨a, xs, _, xs[j], rfl, rfl, kp.seq D n hS, atI_nat (List.getElem?_eq_getElem hj), q _ _ D' kp (List.getElem_mem hj)⟩
end
end Kf

set_option Elab.async false
set_option linter.all false
set_option maxRecDepth 100000
set_option maxHeartbeats 2000000
namespace Kf
open PySem PySem.Spec PyProof.Rows L2
/-! ### calls by a bundle, constants of the module -/
structure Cal (P : Program) (w : World) (K : PySem.W.Frag) (mg : Str → Option Value) (base : Heap) (k : Nat) (x : Str) (ps : List Str) (sp : Sp) : Prop where
  ex : ∃ f fd, mg x = some (.ref f) ∧ PySem.W.keepIn K (.ref f) = true ∧ Binds K fd ps [] ∧ FnOk P w K mg base CX0 k f fd ps sp
section
variable {X : Cx} {j k : Nat} {x : Str} {ps : List Str} {sp : Sp} {p pos : Pos} {e : Expr} {es : List Expr} {t : TA}
theorem pe_cal (C : Cal X.prog X.w X.K X.mg X.base k x ps sp) (hk : k ≤ j) (hr : Room j X.A) (hg : Gl X x) (ha : PA X (e :: es) t) (hdb : (x == ("__debug__" : Str)) = false := by decide)
    (he : starEach (e :: es) X.env = (false, eval e X.env) :: starEach es X.env := by rfl) (hpl : (backTo pos (starEach es X.env)).any (·.1) = false := by rfl) : PE X (.Call (.Name x p) (e :: es) [] pos) (tCall sp [] E0 t) := by
  obtain ⟨f, fd, m, kp, b, F⟩ := C.ex
  exact pe_call F (hr.mono hk) hg m kp b .nil pass0 ha hdb he hpl
def GC (mg : Str → Option Value) (x : Str) (v : V) : Prop := ∃ u, mg x = some u ∧ RelV v u
theorem pe_gc {v : V} (hg : Gl X x) (h : GC X.mg x v) (hd : (x == ("__debug__" : Str)) = false := by decide) : PE X (.Name x pos) (tC v) := by
  obtain ⟨u, m, r⟩ := h
  exact pe_glob hg m r hd
end
/-! ### lists and tuples alike -/
def Sq (K : PySem.W.Frag) (H : Hp) (a : Addr) (xs : List V) : Prop := SqL K H a xs ∨ SqT K H a xs
def Sqb (b : Bool) (K : PySem.W.Frag) (H : Hp) (a : Addr) (xs : List V) : Prop := if b = true then SqL K H a xs else SqT K H a xs
def Itb (b : Bool) (K : PySem.W.Frag) (a : Addr) : It := if b = true then Itl K a else Itt K a
theorem Sq.b {K : PySem.W.Frag} {H : Hp} {a : Addr} {xs : List V} (h : Sq K H a xs) : ∃ b, Sqb b K H a xs := by
  rcases h with h | h
  · exact ⟨true, h⟩
  · exact ⟨false, h⟩
theorem Sqb.s {b : Bool} {K : PySem.W.Frag} {H : Hp} {a : Addr} {xs : List V} (h : Sqb b K H a xs) : Sq K H a xs := by
  cases b with
  | true => exact .inl h
  | false => exact .inr h
theorem walk_sq {b : Bool} {K : PySem.W.Frag} {a : Addr} {xs : List V} : Walk (Itb b K a) xs.length (fun H => Sqb b K H a xs) (YAt xs) := by
  cases b with
  | true => exact walk_list
  | false => exact walk_tup
theorem Same.sqt {K : PySem.W.Frag} {H H' : Hp} {a : Addr} {xs : List V} (e : Same H H') (h : SqT K H a xs) : SqT K H' a xs := by
  rcases h with (h | ⟨o, h⟩) | h
  · exact .inl (.inl (e _ _ h))
  · exact .inl (.inr ⟨o, e _ _ h⟩)
  · exact .inr h
theorem Same.sq {K : PySem.W.Frag} {H H' : Hp} {a : Addr} {xs : List V} (e : Same H H') (h : Sq K H a xs) : Sq K H' a xs := by
  rcases h with h | h
  · exact .inl (e.seq h)
  · exact .inr (Same.sqt e h)
theorem Same.sqb {b : Bool} {K : PySem.W.Frag} {H H' : Hp} {a : Addr} {xs : List V} (e : Same H H') (h : Sqb b K H a xs) : Sqb b K H' a xs := by
  cases b with
  | true => exact e.seq h
  | false => exact Same.sqt e h
theorem Same.new {H : Hp} {p : Addr} {o : HO} (h : H p = none) : Same H (upd H p o) := fun b u e => by
  rw [upd_ne (ne_of_none e h)]
  exact e
/-- a write at a place that is new -/
theorem Same.at {H H' : Hp} {p : Addr} {o : HO} (s : Same H H') (h : H p = none) : Same H (upd H' p o) := fun b u e => by
  rw [upd_ne (ne_of_none e h)]
  exact s b u e
section
variable {X : Cx} {tg : Expr}
def iSq (K : PySem.W.Frag) (tl : TE) : TI := fun σ H R => tl σ H fun x H1 => ∃ a b, x = .ref a ∧ (∃ xs, Sqb b K H1 a xs) ∧ R (Itb b K a) H1
theorem pi_sq {l : Expr} {tl : TE} (hl : PE X l tl) : PI X tg l (iSq X.K tl) := by
  refine ⟨fun pins s σ H R I h => ?_⟩
  refine thn (hl.run pins s σ H _ I h) fun v s1 ⟨x, H1, I1, r1, q1⟩ => ?_
  obtain ⟨a, b, e, ⟨xs, hq⟩, q⟩ := q1
  subst e
  cases r1
  cases b with
  | true =>
    have hq : SqL X.K H1 a xs := hq
    obtain ⟨its, rv, p, hz⟩ := I1.list hq
    refine wpAny_pyIter_list p.isList ?_
    refine ⟨s1.heap.objs.size, [s1.heap.objs.size], _, _, H1, rfl, I1.kept (t' := s1.toks) fun b o e => Heap.get?_push_of_some _ e, turn_list a _, ⟨_, Heap.get?_push_size _ rfl, rfl, rfl⟩, fun b hb => ?_, q⟩
    have e : b = s1.heap.objs.size := by simpa using hb
    subst e
    exact I1.fpOk (Nat.le_refl _) (I1.hok.fresh (Nat.le_refl _))
  | false =>
    have hq : SqT X.K H1 a xs := hq
    obtain ⟨its, rv, p, hz⟩ := I1.tuple hq
    refine wpAny_pyIter_tuple (show s1.heap.IsTuple a its.toArray from p) ?_
    refine ⟨s1.heap.objs.size, [s1.heap.objs.size], _, _, H1, rfl, I1.kept (t' := s1.toks) fun b o e => Heap.get?_push_of_some _ e, turn_tuple a _, ⟨_, Heap.get?_push_size _ rfl, rfl, rfl⟩, fun b hb => ?_, q⟩
    have e : b = s1.heap.objs.size := by simpa using hb
    subst e
    exact I1.fpOk (Nat.le_refl _) (I1.hok.fresh (Nat.le_refl _))
def rIxQ (K : PySem.W.Frag) : R2 := fun x y H Q => ∃ p xs i v, x = .ref p ∧ y = .int i ∧ Sq K H p xs ∧ atI xs i = some v ∧ Q v H
theorem ix_sq : IxR X (rIxQ X.K) := by
  intro value slice pins s σ H x y v u Q I rx ry q hs
  obtain ⟨p, xs, i, v0, e1, e2, h, a, q⟩ := q
  rcases h with h | h
  · exact ix_list value slice pins s σ H x y v u Q I rx ry ⟨p, xs, i, v0, e1, e2, h, a, q⟩ hs
  · exact ix_tup value slice pins s σ H x y v u Q I rx ry ⟨p, xs, i, v0, e1, e2, h, a, q⟩ hs
def rSlQ (K : PySem.W.Frag) : V → Option Int → Option Int → Hp → VK → Prop := fun x lo hi H Q => rSlL K x lo hi H Q ∨ rSlA K x lo hi H Q
theorem sl_sq : SlR X (rSlQ X.K) := sl_list.or sl_tupA
theorem ix_sqK {K : PySem.W.Frag} (h : X.K = K) : IxR X (rIxQ K) := h ▸ ix_sq
theorem op_inK {K : PySem.W.Frag} (h : X.K = K) : OpR X (compareOp .In) (rIn K false) := h ▸ op_in_seq
theorem op_notInK {K : PySem.W.Frag} (h : X.K = K) : OpR X (compareOp .NotIn) (rIn K true) := h ▸ op_notIn_seq
theorem call_lenK {K : PySem.W.Frag} (h : X.K = K) : CallR X (.builtin "len") (fun xs H Q => ∃ p ys, xs = [.ref p] ∧ Sq K H p ys ∧ Q (.int ys.length) H) := h ▸ call_len_seq
theorem sl_sqK {K : PySem.W.Frag} (h : X.K = K) : SlR X (rSlQ K) := h ▸ sl_sq
end
/-- a slice of a list or a tuple: what it holds is readable behind it -/
theorem rSlQ.of {K : PySem.W.Frag} {a : Addr} {xs : List V} {lo hi : Option Int} {H : Hp} {Q : VK} (h : Sq K H a xs) (q : ∀ p H', Same H H' → Sq K H' p (cutV xs lo hi) → Q (.ref p) H') : rSlQ K (.ref a) lo hi H Q := by
  rcases h with h | h
  · exact .inl ⟨a, xs, rfl, h, fun p np => q p _ (Same.new np) (.inl (.of upd_same))⟩
  · refine .inr ⟨a, xs, rfl, h, fun hw => ?_, fun _ p np => q p _ (Same.new np) (.inr (.of upd_same))⟩
    refine q a H (Same.refl H) (.inr ?_)
    have e : cutV xs lo hi = xs := by
      unfold cutV
      rw [hw.1, hw.2]
      simp
    rw [e]
    exact h
/-! ### tests that leave the heap -/
theorem tOr_pure {t u : TT} {σ : L2.St} {H : Hp} {Q : Bool → Hp → Prop} (c1 c2 : Bool) (h1 : ∀ Q' : Bool → Hp → Prop, Q' c1 H → t σ H Q') (h2 : c1 = false → ∀ Q' : Bool → Hp → Prop, Q' c2 H → u σ H Q') (q : Q (c1 || c2) H) : tOr t u σ H Q := by
  refine h1 _ ?_
  cases c1 with
  | true => exact iteT q
  | false => exact iteF (h2 rfl _ q)
theorem tAnd_pure {t u : TT} {σ : L2.St} {H : Hp} {Q : Bool → Hp → Prop} (c1 c2 : Bool) (h1 : ∀ Q' : Bool → Hp → Prop, Q' c1 H → t σ H Q') (h2 : c1 = true → ∀ Q' : Bool → Hp → Prop, Q' c2 H → u σ H Q') (q : Q (c1 && c2) H) : tAnd t u σ H Q := by
  refine h1 _ ?_
  cases c1 with
  | true => exact iteT (h2 rfl _ q)
  | false => exact iteF q
theorem decStr (x y : Str) : decide (V.str x = V.str y) = decide (x = y) := by
  by_cases h : x = y
  · rw [decide_eq_true h, decide_eq_true (congrArg V.str h)]
  · rw [decide_eq_false h, decide_eq_false fun e => h (V.str.inj e)]
/-! ### flat texts -/
def sV (l : List Str) : List V := l.map V.str
theorem flat_sV : ∀ l : List Str, (sV l).all flatV = true
  | [] => rfl
  | x :: r => by
    show (flatV (.str x) && (sV r).all flatV) = true
    rw [flat_sV r]
    rfl
theorem inV_sV (x : Str) : ∀ l : List Str, inV (.str x) (sV l) = decide (x ∈ l)
  | [] => by simp [inV, sV]
  | y :: r => by
    have ih := inV_sV x r
    unfold inV sV at ih ⊢
    rw [List.map_cons, List.any_cons, ih]
    show (decide (y = x) || decide (x ∈ r)) = decide (x ∈ y :: r)
    by_cases h : y = x
    · subst h
      simp
    · simp [h, Ne.symm h]
/-! ### comprehensions that only make -/
structure LP (H1 : Hp) (D : Addr) (acc : Nat → List V) (i : Nat) (H : Hp) : Prop where
  sm : Same H1 H
  at_ : H D = some (.lst (acc i))
theorem LP.zero {H1 : Hp} {D : Addr} {acc : Nat → List V} (n : H1 D = none) (h : acc 0 = []) : LP H1 D acc 0 (upd H1 D (.lst [])) := ⟨Same.new n, by rw [upd_same, h]⟩
theorem LP.put {H1 H H4 : Hp} {D : Addr} {acc : Nat → List V} {i : Nat} {y : V} (p : LP H1 D acc i H) (n : H1 D = none) (sm : Same H H4) (ha : acc (i + 1) = acc i ++ [y]) (hl : (acc i).length < sizeLine) :
    ∃ a, H4 D = some (.lst a) ∧ a.length < sizeLine ∧ LP H1 D acc (i + 1) (upd H4 D (.lst (a ++ [y]))) :=
  ⟨acc i, sm _ _ p.at_, hl, Same.at (p.sm.trans sm) n, by rw [upd_same, ha]⟩
theorem LP.skip {H1 H H4 : Hp} {D : Addr} {acc : Nat → List V} {i : Nat} (p : LP H1 D acc i H) (sm : Same H H4) (ha : acc (i + 1) = acc i) : LP H1 D acc (i + 1) H4 := ⟨p.sm.trans sm, by rw [ha]; exact sm _ _ p.at_⟩
/-- names that are not the module's own -/
structure Nm (mg : Str → Option Value) : Prop where
  n_isinstance : mg "isinstance" = none
  n_str : mg "str" = none
  n_int : mg "int" = none
  n_bool : mg "bool" = none
  n_list : mg "list" = none
  n_tuple : mg "tuple" = none
  n_dict : mg "dict" = none
  n_len : mg "len" = none
  n_all : mg "all" = none
  n_any : mg "any" = none
  n_range : mg "range" = none
  n_abs : mg "abs" = none
  n_divmod : mg "divmod" = none
  n_min : mg "min" = none
  n_repr : mg "repr" = none
  n_sorted : mg "sorted" = none
  n_enumerate : mg "enumerate" = none
  n_zip : mg "zip" = none
  n_set : mg "set" = none
structure Cn (mg : Str → Option Value) : Prop where
  c_LETTERS : GC mg "LETTERS" (.str "abcdefghijklmnopqrstuvwxyz")
  c_MOST_LETTERS : GC mg "MOST_LETTERS" (.int 6)
  c_MOST_PARTS : GC mg "MOST_PARTS" (.int 8)
  c_MOST_GATES : GC mg "MOST_GATES" (.int 8)
  c_MOST_CAUSES : GC mg "MOST_CAUSES" (.int 4)
end Kf

set_option Elab.async false
set_option linter.all false
set_option maxRecDepth 100000
set_option maxHeartbeats 2000000
namespace Kf
open PySem PySem.Spec PyProof.Rows L2
/-! ## plants.py: what it judges, said of good values -/
structure NameOk (z : Str) : Prop where
  lo : 1 ≤ z.length
  hi : z.length ≤ 6
  low : ∀ c ∈ z.cps.toList, 97 ≤ c ∧ c ≤ 122
theorem letters_eq : (Str.ofString "abcdefghijklmnopqrstuvwxyz").cps.toList = List.range' 97 26 := by decide +kernel
theorem mem_letters {c : Nat} (h : 97 ≤ c ∧ c ≤ 122) : c ∈ (Str.ofString "abcdefghijklmnopqrstuvwxyz").cps.toList := by
  rw [letters_eq, List.mem_range']
  exact ⟨c - 97, by omega, by omega⟩
def trues (i : Nat) : List V := (List.replicate i true).map V.bl
theorem trues_succ (i : Nat) : trues (i + 1) = trues i ++ [.bl true] := by
  unfold trues
  rw [List.replicate_succ', List.map_append]
  rfl
theorem trues_len (i : Nat) : (trues i).length = i := by simp [trues]
theorem trues_all (i : Nat) : (List.replicate i true).all id = true := by simp
theorem blT {p : Prop} [Decidable p] (h : p) : V.bl (decide p) = V.bl true := by rw [decide_eq_true h]
theorem blF {p : Prop} [Decidable p] (h : ¬ p) : V.bl (decide p) = V.bl false := by rw [decide_eq_false h]
section
variable {P : Program} {w : World} {K : PySem.W.Frag} {mg : Str → Option Value} {base : Heap}
def spTrueOf (ok : V → Hp → Prop) : Sp := fun vs H Q _ => ∃ v, vs = [v] ∧ ok v H ∧ ∀ H', Same H H' → Q (.bl true) H'
def spIsName : Sp := spTrueOf fun v _ => ∃ z, v = .str z ∧ NameOk z
theorem ok_is_name {f : Addr} {fd : FuncData} {k : Nat} (F : Fun K "is_name" "is_name" s_is_name f fd) (T : Nm mg) (Z : Cn mg) : FnOk P w K mg base CX0 (k + 1) f fd ["value"] spIsName := by
  refine F.ok sc_is_name (fun vs H Q E h => ?_) (fun cdv A outer s H vs Q E hr h => ?_)
  · obtain ⟨v, rfl, _⟩ := h
    rfl
  · obtain ⟨_, rfl, ⟨z, rfl, ok⟩, q⟩ := h
    have hl := ok.lo
    have hh := ok.hi
    refine ⟨_, (pss_cons (ps_if (PW.pt (pw_or (pt_not (pt_val (pe_callB call_isi (by rfl) T.n_isinstance (by decide +kernel) (pa_cons (pv 0) (pa_cons (pe_bltn (v := .ty "str") (by rfl) T.n_str (by decide +kernel) rfl) pa_nil))))) (pw_or1 (pt_not (pt_chain op_le op_le pe_int (pe_callB call_len_str (by rfl) T.n_len (by decide +kernel) (pa_cons (pv 0) pa_nil)) (pe_gc (by rfl) Z.c_MOST_LETTERS))))))
 (pss_one (ps_ret pe_bl))
 pss_nil)
 (pss_one (ps_ret (pe_callB (cr_all rfl) (by rfl) T.n_all (by decide +kernel) (pa_cons (pe_lc (own := [("letter", 1)]) (g := gName 1) (by rfl) sc_is_name.nd (pi_str (pv 0)) (blkOk_by (own := [("letter", 1)]) (N := ["value", "letter"]) (sc := defScope s_is_name) (by decide +kernel)) (fun _ _ _ _ _ => pg_name (i := 1) sc_is_name.nd rfl (.inl rfl)) (fun _ _ _ _ _ => pts_nil) (fun _ _ _ _ _ => (pe_cmpR op_in_sign (pv 1) (pe_gc (by rfl) Z.c_LETTERS) (by with_unfolding_all rfl)))) pa_nil))))), ?_⟩
    refine ⟨.str z, rfl, _, _, .type "str", .type "str", true, rfl, .ty _, .base (.str _), kit_ty (by decide +kernel), true, rfl, iteF ?_⟩
    refine ⟨.str z, rfl, z, rfl, by rw [sizeLine_eq]; omega, 1, _, rfl, rfl, true, blT (by omega), iteT ⟨_, 6, rfl, rfl, true, blT (by omega), iteF ?_⟩⟩
    refine ⟨.str z, rfl, z, rfl, fun D nD => ?_⟩
    refine lc_it walk_str (LP H D trues) (LP.zero nD rfl) (fun _ _ _ _ => trivial) (fun i x H2 H3 hi p y => ?_) (fun H2 p => ?_)
    · obtain ⟨rfl, c, hc, rfl⟩ := y
      refine ⟨rfl, ⟨.str ⟨#[c]⟩, rfl, c, _, rfl, rfl, ?_⟩⟩
      rw [decide_eq_true (mem_letters (ok.low c (by rw [Array.mem_toList_iff]; exact Array.mem_of_getElem? hc)))]
      exact p.put nD (Same.refl _) (trues_succ i) (by rw [trues_len, sizeLine_eq]; have : i < z.length := hi; omega)
    · refine ⟨D, List.replicate z.cps.size true, rfl, .of p.at_, ?_⟩
      rw [trues_all]
      exact q _ p.sm
/-! ### kinds of values -/
theorem ty_tup {H : Hp} {a : Addr} {xs : List V} (h : SqT K H a xs) : TyX K H (.ref a) (.type "tuple") := by
  rcases h with (h | ⟨o, h⟩) | ⟨o, its, n, h, c, _⟩
  · exact .base (.tup h)
  · exact .fTuple h
  · exact .kTuple h c
theorem ty_lst {H : Hp} {a : Addr} {xs : List V} (h : SqL K H a xs) : TyX K H (.ref a) (.type "list") := by
  rcases h with (h | ⟨o, h⟩) | ⟨o, its, n, h, c, _⟩
  · exact .base (.lst h)
  · exact .base (.frz h)
  · exact .kList h c
def spIsInteger : Sp := spTrueOf fun v _ => ∃ i, v = .int i
theorem ok_is_integer {f : Addr} {fd : FuncData} {k : Nat} (F : Fun K "is_integer" "is_integer" s_is_integer f fd) (T : Nm mg) : FnOk P w K mg base CX0 (k + 1) f fd ["value"] spIsInteger := by
  refine F.ok sc_is_integer (fun vs H Q E h => ?_) (fun cdv A outer s H vs Q E hr h => ?_)
  · obtain ⟨v, rfl, _⟩ := h
    rfl
  · obtain ⟨_, rfl, ⟨i, rfl⟩, q⟩ := h
    refine ⟨_, (pss_one (ps_ret (pe_and (pe_callB call_isi (by rfl) T.n_isinstance (by decide +kernel) (pa_cons (pv 0) (pa_cons (pe_bltn (v := .ty "int") (by rfl) T.n_int (by decide +kernel) rfl) pa_nil))) (pe_one (pe_not (pe_callB call_isi (by rfl) T.n_isinstance (by decide +kernel) (pa_cons (pv 0) (pa_cons (pe_bltn (v := .ty "bool") (by rfl) T.n_bool (by decide +kernel) rfl) pa_nil)))))))), ?_⟩
    refine ⟨.int i, rfl, _, _, .type "int", .type "int", true, rfl, .ty _, .base (.int _), kit_ty (by decide +kernel), true, rfl, iteT ?_⟩
    exact ⟨.int i, rfl, _, _, .type "int", .type "bool", false, rfl, .ty _, .base (.int _), kit_ty (by decide +kernel), false, rfl, q _ (Same.refl _)⟩
def spIsList (K : PySem.W.Frag) : Sp := spTrueOf fun v H => ∃ a xs, v = .ref a ∧ Sq K H a xs
theorem ok_is_list {f : Addr} {fd : FuncData} {k : Nat} (F : Fun K "is_list" "is_list" s_is_list f fd) (T : Nm mg) : FnOk P w K mg base CX0 (k + 1) f fd ["value"] (spIsList K) := by
  refine F.ok sc_is_list (fun vs H Q E h => ?_) (fun cdv A outer s H vs Q E hr h => ?_)
  · obtain ⟨v, rfl, _⟩ := h
    rfl
  · obtain ⟨_, rfl, ⟨a, xs, rfl, h⟩, q⟩ := h
    refine ⟨_, (pss_one (ps_ret (pe_callB call_isiT (by rfl) T.n_isinstance (by decide +kernel) (pa_cons (pv 0) (pa_cons (pe_tup (pa_cons (pe_bltn (v := .ty "list") (by rfl) T.n_list (by decide +kernel) rfl) (pa_cons (pe_bltn (v := .ty "tuple") (by rfl) T.n_tuple (by decide +kernel) rfl) pa_nil))) pa_nil))))), ?_⟩
    refine ⟨.ref a, rfl, by show 2 ≤ sizeLine; decide, fun p np => ?_⟩
    have h2 := Same.sq (Same.new (o := .tup [.ty "list", .ty "tuple"]) np) h
    rcases h2 with h2 | h2
    · exact ⟨_, p, [.ty "list", .ty "tuple"], .type "list", [.type "list", .type "tuple"], true, rfl, upd_same, .cons (.ty _) (.cons (.ty _) .nil), ty_lst h2, kitAny_cons (b := true) (kit_ty (by decide +kernel)) (fun z => nomatch z) (fun _ => rfl), q _ (Same.new np)⟩
    · exact ⟨_, p, [.ty "list", .ty "tuple"], .type "tuple", [.type "list", .type "tuple"], true, rfl, upd_same, .cons (.ty _) (.cons (.ty _) .nil), ty_tup h2, kitAny_cons (b := false) (kit_ty (by decide +kernel)) (fun _ => kitAny_cons (b := true) (kit_ty (by decide +kernel)) (fun z => nomatch z) (fun _ => rfl)) (fun z => nomatch z), q _ (Same.new np)⟩
/-! ### no text twice -/
theorem cut_to {xs : List V} {i : Nat} (h : i ≤ xs.length) : cutV xs none (some (i : Int)) = xs.take i := by
  unfold cutV
  have e1 : HT.sIx xs.length 0 none = 0 := rfl
  have e2 : HT.sIx xs.length xs.length (some (i : Int)) = i := by
    rw [HT.sIx_nat]
    omega
  rw [e1, e2]
  simp
def spAllDiffer (K : PySem.W.Frag) : Sp := spTrueOf fun v H => ∃ a l, v = .ref a ∧ Sq K H a (sV l) ∧ l.Nodup ∧ l.length ≤ 1000
theorem ok_all_differ {f : Addr} {fd : FuncData} {k : Nat} (F : Fun K "all_differ" "all_differ" s_all_differ f fd) (T : Nm mg) : FnOk P w K mg base CX0 (k + 1) f fd ["values"] (spAllDiffer K) := by
  refine F.ok sc_all_differ (fun vs H Q E h => ?_) (fun cdv A outer s H vs Q E hr h => ?_)
  · obtain ⟨v, rfl, _⟩ := h
    rfl
  · obtain ⟨_, rfl, ⟨a, l, rfl, h, nd, hl⟩, q⟩ := h
    have el : (sV l).length = l.length := List.length_map ..
    refine ⟨_, (pss_one (ps_ret (pe_callB (cr_all rfl) (by rfl) T.n_all (by decide +kernel) (pa_cons (pe_lc (own := [("at", 1)]) (g := gName 1) (by rfl) sc_all_differ.nd (pi_range1 rfl T.n_range (pa_cons (pe_callB (call_lenK (K := K) rfl) (by rfl) T.n_len (by decide +kernel) (pa_cons (pv 0) pa_nil)) pa_nil)) (blkOk_by (own := [("at", 1)]) (N := ["values", "at"]) (sc := defScope s_all_differ) (by decide +kernel)) (fun _ _ _ _ _ => pg_name (i := 1) sc_all_differ.nd rfl (.inl rfl)) (fun _ _ _ _ _ => pts_nil) (fun _ _ _ _ _ => (pe_cmpR (op_notInK (K := K) rfl) (pe_ix (ix_sqK (K := K) rfl) (pv 0) (pv 1) (fun _ _ => rfl)) (pe_slice (sl_sqK (K := K) rfl) (pv 0) po_none (po_some (pv 1))) (by with_unfolding_all rfl)))) pa_nil)))), ?_⟩
    refine ⟨.ref a, rfl, a, _, rfl, h, l.length, by rw [el], by omega, by omega, fun D nD => ?_⟩
    refine lc_it (walk_range (lo := 0) (n := l.length)) (LP H D trues) (LP.zero nD rfl) (fun _ _ _ _ => trivial) (fun i x H2 H3 hi p y => ?_) (fun H2 p => ?_)
    · obtain ⟨rfl, rfl⟩ := y
      have h2 := Same.sq p.sm h
      have e0 : (0 : Int) + (i : Int) = (i : Int) := by omega
      have hx : (sV l)[i]? = some (.str l[i]) := by simp [sV, hi]
      refine ⟨rfl, .ref a, rfl, .int (0 + (i : Int)), rfl, a, _, 0 + (i : Int), _, rfl, rfl, h2, by rw [e0]; exact atI_nat hx, .ref a, rfl, .int (0 + (i : Int)), rfl, 0 + (i : Int), rfl, ?_⟩
      refine rSlQ.of h2 fun c H4 sm h4 => ?_
      rw [e0, cut_to (by omega)] at h4
      have e4 : (sV l).take i = sV (l.take i) := by simp [sV, List.map_take]
      rw [e4] at h4
      refine ⟨c, _, rfl, h4, rfl, flat_sV _, ?_⟩
      rw [inV_sV]
      have hn : ¬ l[i] ∈ l.take i := by
        intro hm
        obtain ⟨j, hj, e⟩ := List.mem_iff_getElem.mp hm
        rw [List.getElem_take] at e
        rw [List.length_take] at hj
        exact (List.pairwise_iff_getElem.mp nd) j i (by omega) hi (by omega) e
      rw [decide_eq_false hn]
      exact p.put nD sm (trues_succ i) (by rw [trues_len, sizeLine_eq]; omega)
    · refine ⟨D, List.replicate l.length true, rfl, .of p.at_, ?_⟩
      rw [trues_all]
      exact q _ p.sm
/-! ### things at their places -/
def Each {α : Type} (R : V → α → Prop) (xs : List V) (l : List α) : Prop := xs.length = l.length ∧ ∀ (i : Nat) (x : V), xs[i]? = some x → ∃ p, l[i]? = some p ∧ R x p
theorem Each.imp {α : Type} {R R' : V → α → Prop} {xs : List V} {l : List α} (e : Each R xs l) (h : ∀ x p, R x p → R' x p) : Each R' xs l :=
  ⟨e.1, fun i x hx => by
    obtain ⟨p, hp, r⟩ := e.2 i x hx
    exact ⟨p, hp, h _ _ r⟩⟩
/-- tuples are kept -/
def KT (K : PySem.W.Frag) (H H' : Hp) : Prop := ∀ a xs, SqT K H a xs → SqT K H' a xs
theorem Same.kt {H H' : Hp} (s : Same H H') : KT K H H' := fun _ _ h => Same.sqt s h
def TxtsAt (K : PySem.W.Frag) (H : Hp) (v : V) (l : List Str) : Prop := ∃ a, v = .ref a ∧ SqT K H a (sV l)
def PartAt (K : PySem.W.Frag) (H : Hp) (v : V) (p : Str × Str) : Prop := ∃ a, v = .ref a ∧ SqT K H a [.str p.1, .str p.2]
def CauseAt (K : PySem.W.Frag) (H : Hp) (v : V) (c : Str × List Str) : Prop := ∃ a b, v = .ref a ∧ SqT K H a [.str c.1, .ref b] ∧ SqT K H b (sV c.2)
inductive G where
  | all (n : Str) (ins : List Str)
  | any (n : Str) (ins : List Str)
  | least (n : Str) (m : Int) (ins : List Str)
  | before (n x y : Str)
  | spare (n : Str) (ps : List Str)
def G.name : G → Str
  | .all n _ | .any n _ | .least n _ _ | .before n _ _ | .spare n _ => n
def GateAt (K : PySem.W.Frag) (H : Hp) (v : V) : G → Prop
  | .all n ins => ∃ a b, v = .ref a ∧ SqT K H a [.str n, .str "all", .ref b] ∧ SqT K H b (sV ins)
  | .any n ins => ∃ a b, v = .ref a ∧ SqT K H a [.str n, .str "any", .ref b] ∧ SqT K H b (sV ins)
  | .least n m ins => ∃ a b, v = .ref a ∧ SqT K H a [.str n, .str "least", .int m, .ref b] ∧ SqT K H b (sV ins)
  | .before n x y => ∃ a, v = .ref a ∧ SqT K H a [.str n, .str "before", .str x, .str y]
  | .spare n ps => ∃ a b, v = .ref a ∧ SqT K H a [.str n, .str "spare", .ref b] ∧ SqT K H b (sV ps)
theorem PartAt.kt {H H' : Hp} {v : V} {p : Str × Str} (k : KT K H H') (h : PartAt K H v p) : PartAt K H' v p := by
  obtain ⟨a, e, h⟩ := h
  exact ⟨a, e, k _ _ h⟩
theorem CauseAt.kt {H H' : Hp} {v : V} {c : Str × List Str} (k : KT K H H') (h : CauseAt K H v c) : CauseAt K H' v c := by
  obtain ⟨a, b, e, h, h2⟩ := h
  exact ⟨a, b, e, k _ _ h, k _ _ h2⟩
theorem GateAt.kt {H H' : Hp} {v : V} {g : G} (k : KT K H H') (h : GateAt K H v g) : GateAt K H' v g := by
  cases g with
  | all n ins =>
    obtain ⟨a, b, e, h, h2⟩ := h
    exact ⟨a, b, e, k _ _ h, k _ _ h2⟩
  | any n ins =>
    obtain ⟨a, b, e, h, h2⟩ := h
    exact ⟨a, b, e, k _ _ h, k _ _ h2⟩
  | least n m ins =>
    obtain ⟨a, b, e, h, h2⟩ := h
    exact ⟨a, b, e, k _ _ h, k _ _ h2⟩
  | before n x y =>
    obtain ⟨a, e, h⟩ := h
    exact ⟨a, e, k _ _ h⟩
  | spare n ps =>
    obtain ⟨a, b, e, h, h2⟩ := h
    exact ⟨a, b, e, k _ _ h, k _ _ h2⟩
/-! ### choices of names -/
structure ChoiceOk (l names : List Str) : Prop where
  ne : l ≠ []
  nd : l.Nodup
  sub : ∀ x ∈ l, x ∈ names
  len : l.length ≤ 1000
theorem map_isEmpty {l : List Str} (h : l ≠ []) : (!(sV l).isEmpty) = true := by
  cases l with
  | nil => exact absurd rfl h
  | cons x r => rfl
def spIsChoice (K : PySem.W.Frag) : Sp := fun vs H Q _ => ∃ v b l names, vs = [v, .ref b] ∧ TxtsAt K H v l ∧ Sq K H b (sV names) ∧ ChoiceOk l names ∧ ∀ H', Same H H' → Q (.bl true) H'
theorem ok_is_choice {f : Addr} {fd : FuncData} (F : Fun K "is_choice" "is_choice" s_is_choice f fd) (T : Nm mg) (C_all_differ : Cal P w K mg base 1 "all_differ" ["values"] (spAllDiffer K)) :
    FnOk P w K mg base CX0 2 f fd ["value", "names"] (spIsChoice K) := by
  refine F.ok sc_is_choice (fun vs H Q E h => ?_) (fun cdv A outer s H vs Q E hr h => ?_)
  · obtain ⟨v, b, l, names, rfl, _⟩ := h
    rfl
  · obtain ⟨_, b, l, names, rfl, ⟨a, rfl, h⟩, hb, ok, q⟩ := h
    refine ⟨_, (pss_cons (ps_if (PW.pt (pw_or (pt_not (pt_val (pe_callB call_isi (by rfl) T.n_isinstance (by decide +kernel) (pa_cons (pv 0) (pa_cons (pe_bltn (v := .ty "tuple") (by rfl) T.n_tuple (by decide +kernel) rfl) pa_nil))))) (pw_or1 (pt_not (pt_truth (pv 0) (by intro _; rfl))))))
 (pss_one (ps_ret pe_bl))
 pss_nil)
 (pss_one (ps_ret (pe_and (pe_callB (cr_all rfl) (by rfl) T.n_all (by decide +kernel) (pa_cons (pe_lc (own := [("item", 2)]) (g := gName 2) (by rfl) sc_is_choice.nd (pi_sq (pv 0)) (blkOk_by (own := [("item", 2)]) (N := ["value", "names", "item"]) (sc := defScope s_is_choice) (by decide +kernel)) (fun _ _ _ _ _ => pg_name (i := 2) sc_is_choice.nd rfl (.inl rfl)) (fun _ _ _ _ _ => pts_nil) (fun _ _ _ _ _ => (pe_cmpR (op_inK (K := K) rfl) (pv 2) (pv 1) (by with_unfolding_all rfl)))) pa_nil)) (pe_one (pe_cal C_all_differ (by decide) hr (by rfl) (pa_cons (pv 0) pa_nil))))))), ?_⟩
    refine ⟨.ref a, rfl, _, _, .type "tuple", .type "tuple", true, rfl, .ty _, ty_tup h, kit_ty (by decide +kernel), true, rfl, iteF ?_⟩
    refine ⟨.ref a, rfl, true, .inr (.inl ⟨_, h, (map_isEmpty ok.ne).symm⟩), iteF ?_⟩
    refine ⟨.ref a, rfl, a, false, rfl, ⟨_, h⟩, fun D nD => ?_⟩
    have el : (sV l).length = l.length := List.length_map ..
    refine lc_it walk_sq (LP H D trues) (LP.zero nD rfl) (fun _ _ _ p => Same.sqb (b := false) p.sm h) (fun i x H2 H3 hi p y => ?_) (fun H2 p => ?_)
    · obtain ⟨rfl, hx⟩ := y
      rw [el] at hi
      have hx2 : (sV l)[i]? = some (.str l[i]) := by simp [sV, hi]
      obtain rfl : x = .str l[i] := Option.some.inj (hx.symm.trans hx2)
      refine ⟨rfl, .str l[i], rfl, .ref b, rfl, b, _, rfl, Same.sq p.sm hb, rfl, flat_sV _, ?_⟩
      show ∃ acc, H3 D = _ ∧ _
      rw [inV_sV, decide_eq_true (ok.sub _ (List.getElem_mem hi))]
      exact p.put nD (Same.refl _) (trues_succ i) (by have := ok.len; rw [trues_len, sizeLine_eq]; omega)
    · refine ⟨D, List.replicate (sV l).length true, rfl, .of p.at_, ?_⟩
      rw [trues_all]
      refine ⟨true, rfl, iteT ⟨.ref a, rfl, .ref a, rfl, ⟨a, l, rfl, Same.sq p.sm (.inr h), ok.nd, ok.len⟩, fun H3 s3 => q _ (p.sm.trans s3)⟩⟩
/-! ### parts -/
theorem iteD {c A B : Prop} [Decidable c] (h : c) (a : A) : if decide c = true then A else B := by
  rw [if_pos (decide_eq_true h)]
  exact a
theorem iteN {c A B : Prop} [Decidable c] (h : ¬ c) (b : B) : if decide c = true then A else B := by
  rw [if_neg (by rw [decide_eq_false h]; exact Bool.false_ne_true)]
  exact b
structure PartOk (p : Str × Str) : Prop where
  name : NameOk p.1
  kind : p.2 ∈ [("hot" : Str), "cold"]
def spIsPart (K : PySem.W.Frag) : Sp := spTrueOf fun v H => ∃ p, PartAt K H v p ∧ PartOk p
theorem ok_is_part {f : Addr} {fd : FuncData} (F : Fun K "is_part" "is_part" s_is_part f fd) (T : Nm mg) (C_is_name : Cal P w K mg base 1 "is_name" ["value"] spIsName) : FnOk P w K mg base CX0 2 f fd ["value"] (spIsPart K) := by
  refine F.ok sc_is_part (fun vs H Q E h => ?_) (fun cdv A outer s H vs Q E hr h => ?_)
  · obtain ⟨v, rfl, _⟩ := h
    rfl
  · obtain ⟨_, rfl, ⟨⟨n, kd⟩, ⟨a, rfl, h⟩, ok⟩, q⟩ := h
    refine ⟨_, (pss_cons (ps_if (PW.pt (pw_or (pt_not (pt_val (pe_callB call_isi (by rfl) T.n_isinstance (by decide +kernel) (pa_cons (pv 0) (pa_cons (pe_bltn (v := .ty "tuple") (by rfl) T.n_tuple (by decide +kernel) rfl) pa_nil))))) (pw_or1 (pt_cmpR op_ne (pe_callB (call_lenK (K := K) rfl) (by rfl) T.n_len (by decide +kernel) (pa_cons (pv 0) pa_nil)) pe_int (nomark _)))))
 (pss_one (ps_ret pe_bl))
 pss_nil)
 (pss_one (ps_ret (pe_and (pe_cal C_is_name (by decide) hr (by rfl) (pa_cons (pe_ix (ix_sqK (K := K) rfl) (pv 0) pe_int (fun _ _ => rfl)) pa_nil)) (pe_one (pe_cmpR (op_inK (K := K) rfl) (pe_ix (ix_sqK (K := K) rfl) (pv 0) pe_int (fun _ _ => rfl)) (pe_tup (pa_cons pe_str (pa_cons pe_str pa_nil))) (by with_unfolding_all rfl))))))), ?_⟩
    refine ⟨.ref a, rfl, _, _, .type "tuple", .type "tuple", true, rfl, .ty _, ty_tup h, kit_ty (by decide +kernel), true, rfl, iteF ?_⟩
    refine ⟨.ref a, rfl, a, _, rfl, .inr h, rfl, _, rfl, iteNS rfl ?_⟩
    refine ⟨.ref a, rfl, a, _, 0, .str n, rfl, rfl, .inr h, rfl, .str n, rfl, ⟨n, rfl, ok.name⟩, fun H2 s2 => ⟨true, rfl, iteT ?_⟩⟩
    refine ⟨.ref a, rfl, a, _, 1, .str kd, rfl, rfl, .inr (Same.sqt s2 h), rfl, by show 2 ≤ sizeLine; decide, fun p np => ?_⟩
    refine ⟨p, sV ["hot", "cold"], rfl, .inr (.of upd_same), rfl, flat_sV _, ?_⟩
    show Q (.bl (inV (.str kd) (sV ["hot", "cold"]))) _
    rw [inV_sV, decide_eq_true ok.kind]
    exact q _ (s2.trans (Same.new np))
structure PartsOk (l : List (Str × Str)) : Prop where
  lo : 1 ≤ l.length
  hi : l.length ≤ 8
  each : ∀ p ∈ l, PartOk p
  nd : (l.map (·.1)).Nodup
def spAreParts (K : PySem.W.Frag) : Sp := spTrueOf fun v H => ∃ a xs l, v = .ref a ∧ Sq K H a xs ∧ Each (PartAt K H) xs l ∧ PartsOk l
theorem ok_are_parts {f : Addr} {fd : FuncData} (F : Fun K "are_parts" "are_parts" s_are_parts f fd) (T : Nm mg) (Z : Cn mg) (C_is_list : Cal P w K mg base 1 "is_list" ["value"] (spIsList K)) (C_is_part : Cal P w K mg base 2 "is_part" ["value"] (spIsPart K))
    (C_all_differ : Cal P w K mg base 1 "all_differ" ["values"] (spAllDiffer K)) : FnOk P w K mg base CX0 3 f fd ["value"] (spAreParts K) := by
  refine F.ok sc_are_parts (fun vs H Q E h => ?_) (fun cdv A outer s H vs Q E hr h => ?_)
  · obtain ⟨v, rfl, _⟩ := h
    rfl
  · obtain ⟨_, rfl, ⟨a, xs, l, rfl, h, he, ok⟩, q⟩ := h
    have hlo := ok.lo
    have hhi := ok.hi
    have el := he.1
    refine ⟨_, (pss_cons (ps_if (PW.pt (pw_or (pt_not (pt_val (pe_cal C_is_list (by decide) hr (by rfl) (pa_cons (pv 0) pa_nil)))) (pw_or1 (pt_not (pt_chain op_le op_le pe_int (pe_callB (call_lenK (K := K) rfl) (by rfl) T.n_len (by decide +kernel) (pa_cons (pv 0) pa_nil)) (pe_gc (by rfl) Z.c_MOST_PARTS))))))
 (pss_one (ps_ret pe_bl))
 pss_nil)
 (pss_one (ps_ret (pe_and (pe_callB (cr_all rfl) (by rfl) T.n_all (by decide +kernel) (pa_cons (pe_lc (own := [("item", 1)]) (g := gName 1) (by rfl) sc_are_parts.nd (pi_sq (pv 0)) (blkOk_by (own := [("item", 1)]) (N := ["value", "item"]) (sc := defScope s_are_parts) (by decide +kernel)) (fun _ _ _ _ _ => pg_name (i := 1) sc_are_parts.nd rfl (.inl rfl)) (fun _ _ _ _ _ => pts_nil) (fun _ _ _ _ _ => (pe_cal C_is_part (by decide) hr (by rfl) (pa_cons (pv 1) pa_nil)))) pa_nil)) (pe_one (pe_cal C_all_differ (by decide) hr (by rfl) (pa_cons (pe_lc (own := [("item", 1)]) (g := gName 1) (by rfl) sc_are_parts.nd (pi_sq (pv 0)) (blkOk_by (own := [("item", 1)]) (N := ["value", "item"]) (sc := defScope s_are_parts) (by decide +kernel)) (fun _ _ _ _ _ => pg_name (i := 1) sc_are_parts.nd rfl (.inl rfl)) (fun _ _ _ _ _ => pts_nil) (fun _ _ _ _ _ => (pe_ix (ix_sqK (K := K) rfl) (pv 1) pe_int (fun _ _ => rfl)))) pa_nil))))))), ?_⟩
    refine ⟨.ref a, rfl, .ref a, rfl, ⟨a, xs, rfl, h⟩, fun H2 s2 => ⟨true, rfl, iteF ?_⟩⟩
    have h := Same.sq s2 h
    have he := he.imp fun _ _ r => PartAt.kt (Same.kt s2) r
    refine ⟨.ref a, rfl, a, xs, rfl, h, 1, _, rfl, rfl, true, blT (by omega), iteT ⟨_, 8, rfl, rfl, true, blT (by omega), iteF ?_⟩⟩
    obtain ⟨b, hb⟩ := h.b
    refine ⟨.ref a, rfl, a, b, rfl, ⟨_, hb⟩, fun D nD => ?_⟩
    refine lc_it walk_sq (LP H2 D trues) (LP.zero nD rfl) (fun _ _ _ p => Same.sqb p.sm hb) (fun i x H3 H4 hi p y => ?_) (fun H3 p => ?_)
    · obtain ⟨rfl, hx⟩ := y
      obtain ⟨pt, hpt, r⟩ := he.2 i x hx
      refine ⟨rfl, x, rfl, x, rfl, ⟨pt, PartAt.kt (Same.kt p.sm) r, ok.each _ (List.mem_of_getElem? hpt)⟩, fun H5 s5 => ?_⟩
      exact p.put nD s5 (trues_succ i) (by rw [trues_len, sizeLine_eq]; omega)
    · refine ⟨D, List.replicate xs.length true, rfl, .of p.at_, ?_⟩
      rw [trues_all]
      refine ⟨true, rfl, iteT ?_⟩
      have hb3 := Same.sqb p.sm hb
      refine ⟨.ref a, rfl, a, b, rfl, ⟨_, hb3⟩, fun D2 nD2 => ?_⟩
      refine lc_it walk_sq (LP H3 D2 fun i => sV ((l.map (·.1)).take i)) (LP.zero nD2 (by simp [sV])) (fun _ _ _ p => Same.sqb p.sm hb3) (fun i x H4 H5 hi p2 y => ?_) (fun H4 p2 => ?_)
      · obtain ⟨rfl, hx⟩ := y
        obtain ⟨pt, hpt, c, rfl, r⟩ := he.2 i x hx
        refine ⟨rfl, .ref c, rfl, c, _, 0, .str pt.1, rfl, rfl, .inr (Same.sqt (p.sm.trans p2.sm) r), rfl, ?_⟩
        refine p2.put nD2 (Same.refl _) ?_ (by rw [sizeLine_eq]; simp [sV]; omega)
        have e : (l.map (·.1))[i]? = some pt.1 := by simp [hpt]
        show sV _ = sV _ ++ [_]
        rw [List.take_add_one, e]
        simp [sV]
      · have e : sV ((l.map (·.1)).take xs.length) = sV (l.map (·.1)) := by rw [el, List.take_of_length_le (by simp)]
        refine ⟨.ref D2, rfl, ⟨D2, l.map (·.1), rfl, .inl (.of (by rw [p2.at_, e])), ok.nd, by simp; omega⟩, fun H5 s5 => ?_⟩
        exact q _ (((s2.trans p.sm).trans p2.sm).trans s5)
/-! ### causes -/
structure CauseOk (parts names : List Str) (c : Str × List Str) : Prop where
  trig : c.1 ∈ names
  ch : ChoiceOk c.2 parts
def spIsCause (K : PySem.W.Frag) : Sp := fun vs H Q _ => ∃ v a b c parts names, vs = [v, .ref a, .ref b] ∧ CauseAt K H v c ∧ Sq K H a (sV parts) ∧ Sq K H b (sV names) ∧ CauseOk parts names c ∧ ∀ H', Same H H' → Q (.bl true) H'
theorem ok_is_cause {f : Addr} {fd : FuncData} (F : Fun K "is_cause" "is_cause" s_is_cause f fd) (T : Nm mg) (C_is_choice : Cal P w K mg base 2 "is_choice" ["value", "names"] (spIsChoice K)) : FnOk P w K mg base CX0 3 f fd ["value", "parts", "names"] (spIsCause K) := by
  refine F.ok sc_is_cause (fun vs H Q E h => ?_) (fun cdv A outer s H vs Q E hr h => ?_)
  · obtain ⟨v, a, b, c, ps, ns, rfl, _⟩ := h
    rfl
  · obtain ⟨_, a, b, ⟨tr, ch⟩, ps, ns, rfl, ⟨p, d, rfl, h, hd⟩, ha, hb, ok, q⟩ := h
    refine ⟨_, (pss_cons (ps_if (PW.pt (pw_or (pt_not (pt_val (pe_callB call_isi (by rfl) T.n_isinstance (by decide +kernel) (pa_cons (pv 0) (pa_cons (pe_bltn (v := .ty "tuple") (by rfl) T.n_tuple (by decide +kernel) rfl) pa_nil))))) (pw_or1 (pt_cmpR op_ne (pe_callB (call_lenK (K := K) rfl) (by rfl) T.n_len (by decide +kernel) (pa_cons (pv 0) pa_nil)) pe_int (nomark _)))))
 (pss_one (ps_ret pe_bl))
 pss_nil)
 (pss_one (ps_ret (pe_and (pe_cmpR (op_inK (K := K) rfl) (pe_ix (ix_sqK (K := K) rfl) (pv 0) pe_int (fun _ _ => rfl)) (pv 2) (by with_unfolding_all rfl)) (pe_one (pe_cal C_is_choice (by decide) hr (by rfl) (pa_cons (pe_ix (ix_sqK (K := K) rfl) (pv 0) pe_int (fun _ _ => rfl)) (pa_cons (pv 1) pa_nil)))))))), ?_⟩
    refine ⟨.ref p, rfl, _, _, .type "tuple", .type "tuple", true, rfl, .ty _, ty_tup h, kit_ty (by decide +kernel), true, rfl, iteF ?_⟩
    refine ⟨.ref p, rfl, p, _, rfl, .inr h, rfl, _, rfl, iteNS rfl ?_⟩
    refine ⟨.ref p, rfl, p, _, 0, .str tr, rfl, rfl, .inr h, rfl, .ref b, rfl, b, _, rfl, hb, rfl, flat_sV _, ?_⟩
    show ∃ c, V.bl (inV (.str tr) (sV ns)) = .bl c ∧ _
    rw [inV_sV, decide_eq_true ok.trig]
    exact ⟨true, rfl, iteT ⟨.ref p, rfl, p, _, 1, .ref d, rfl, rfl, .inr h, rfl, .ref a, rfl, ⟨.ref d, a, ch, ps, rfl, ⟨d, rfl, hd⟩, ha, ok.ch, q⟩⟩⟩
structure CausesOk (parts names : List Str) (l : List (Str × List Str)) : Prop where
  hi : l.length ≤ 4
  each : ∀ c ∈ l, CauseOk parts names c
def spAreCauses (K : PySem.W.Frag) : Sp := fun vs H Q _ => ∃ v a b xs l parts names, vs = [.ref v, .ref a, .ref b] ∧ Sq K H v xs ∧ Each (CauseAt K H) xs l ∧ Sq K H a (sV parts) ∧ Sq K H b (sV names) ∧ CausesOk parts names l ∧ ∀ H', Same H H' → Q (.bl true) H'
theorem ok_are_causes {f : Addr} {fd : FuncData} (F : Fun K "are_causes" "are_causes" s_are_causes f fd) (T : Nm mg) (Z : Cn mg) (C_is_list : Cal P w K mg base 1 "is_list" ["value"] (spIsList K)) (C_is_cause : Cal P w K mg base 3 "is_cause" ["value", "parts", "names"] (spIsCause K)) :
    FnOk P w K mg base CX0 4 f fd ["value", "parts", "names"] (spAreCauses K) := by
  refine F.ok sc_are_causes (fun vs H Q E h => ?_) (fun cdv A outer s H vs Q E hr h => ?_)
  · obtain ⟨v, a, b, xs, c, ps, ns, rfl, _⟩ := h
    rfl
  · obtain ⟨v, a, b, xs, l, ps, ns, rfl, h, he, ha, hb, ok, q⟩ := h
    have hhi := ok.hi
    have el := he.1
    refine ⟨_, (pss_cons (ps_if (PW.pt (pw_or (pt_not (pt_val (pe_cal C_is_list (by decide) hr (by rfl) (pa_cons (pv 0) pa_nil)))) (pw_or1 (pt_cmpR op_gt (pe_callB (call_lenK (K := K) rfl) (by rfl) T.n_len (by decide +kernel) (pa_cons (pv 0) pa_nil)) (pe_gc (by rfl) Z.c_MOST_CAUSES) (nomark _)))))
 (pss_one (ps_ret pe_bl))
 pss_nil)
 (pss_one (ps_ret (pe_callB (cr_all rfl) (by rfl) T.n_all (by decide +kernel) (pa_cons (pe_lc (own := [("item", 3)]) (g := gName 3) (by rfl) sc_are_causes.nd (pi_sq (pv 0)) (blkOk_by (own := [("item", 3)]) (N := ["value", "parts", "names", "item"]) (sc := defScope s_are_causes) (by decide +kernel)) (fun _ _ _ _ _ => pg_name (i := 3) sc_are_causes.nd rfl (.inl rfl)) (fun _ _ _ _ _ => pts_nil) (fun _ _ _ _ _ => (pe_cal C_is_cause (by decide) hr (by rfl) (pa_cons (pv 3) (pa_cons (pv 1) (pa_cons (pv 2) pa_nil)))))) pa_nil))))), ?_⟩
    refine ⟨.ref v, rfl, .ref v, rfl, ⟨v, xs, rfl, h⟩, fun H2 s2 => ⟨true, rfl, iteF ?_⟩⟩
    have h := Same.sq s2 h
    refine ⟨.ref v, rfl, v, xs, rfl, h, _, 4, rfl, rfl, _, rfl, iteN (by omega) ?_⟩
    obtain ⟨d, hd⟩ := h.b
    refine ⟨.ref v, rfl, v, d, rfl, ⟨_, hd⟩, fun D nD => ?_⟩
    refine lc_it walk_sq (LP H2 D trues) (LP.zero nD rfl) (fun _ _ _ p => Same.sqb p.sm hd) (fun i x H3 H4 hi p y => ?_) (fun H3 p => ?_)
    · obtain ⟨rfl, hx⟩ := y
      obtain ⟨c, hc, r⟩ := he.2 i x hx
      have s4 := s2.trans p.sm
      refine ⟨rfl, x, rfl, .ref a, rfl, .ref b, rfl, ⟨x, a, b, c, ps, ns, rfl, CauseAt.kt (Same.kt s4) r, Same.sq s4 ha, Same.sq s4 hb, ok.each _ (List.mem_of_getElem? hc), fun H5 s5 => ?_⟩⟩
      exact p.put nD s5 (trues_succ i) (by rw [trues_len, sizeLine_eq]; omega)
    · refine ⟨D, List.replicate xs.length true, rfl, .of p.at_, ?_⟩
      rw [trues_all]
      exact q _ (s2.trans p.sm)
/-! ### gates -/
def RestAt (K : PySem.W.Frag) (H : Hp) (v : V) : G → Prop
  | .all n ins => ∃ a b, v = .ref a ∧ SqT K H a [.ref b] ∧ SqT K H b (sV ins)
  | .any n ins => ∃ a b, v = .ref a ∧ SqT K H a [.ref b] ∧ SqT K H b (sV ins)
  | .least n m ins => ∃ a b, v = .ref a ∧ SqT K H a [.int m, .ref b] ∧ SqT K H b (sV ins)
  | .before n x y => ∃ a, v = .ref a ∧ SqT K H a [.str x, .str y]
  | .spare n ps => ∃ a b, v = .ref a ∧ SqT K H a [.ref b] ∧ SqT K H b (sV ps)
def G.word : G → Str
  | .all _ _ => "all"
  | .any _ _ => "any"
  | .least _ _ _ => "least"
  | .before _ _ _ => "before"
  | .spare _ _ => "spare"
def GateIn (parts names : List Str) : G → Prop
  | .all _ ins => ChoiceOk ins names
  | .any _ ins => ChoiceOk ins names
  | .least _ m ins => ChoiceOk ins names ∧ 1 ≤ m ∧ m ≤ ins.length
  | .before _ x y => ChoiceOk [x, y] names
  | .spare _ ps => ChoiceOk ps parts
theorem litNe {a b : Str} (h : a ≠ b) : ¬ V.str a = V.str b := fun e => h (V.str.inj e)
theorem ne_all_any : ("all" : Str) ≠ "any" := by decide +kernel
theorem ne_all_least : ("all" : Str) ≠ "least" := by decide +kernel
theorem ne_all_before : ("all" : Str) ≠ "before" := by decide +kernel
theorem ne_all_spare : ("all" : Str) ≠ "spare" := by decide +kernel
theorem ne_any_all : ("any" : Str) ≠ "all" := by decide +kernel
theorem ne_any_least : ("any" : Str) ≠ "least" := by decide +kernel
theorem ne_any_before : ("any" : Str) ≠ "before" := by decide +kernel
theorem ne_any_spare : ("any" : Str) ≠ "spare" := by decide +kernel
theorem ne_least_all : ("least" : Str) ≠ "all" := by decide +kernel
theorem ne_least_any : ("least" : Str) ≠ "any" := by decide +kernel
theorem ne_least_before : ("least" : Str) ≠ "before" := by decide +kernel
theorem ne_least_spare : ("least" : Str) ≠ "spare" := by decide +kernel
theorem ne_before_all : ("before" : Str) ≠ "all" := by decide +kernel
theorem ne_before_any : ("before" : Str) ≠ "any" := by decide +kernel
theorem ne_before_least : ("before" : Str) ≠ "least" := by decide +kernel
theorem ne_before_spare : ("before" : Str) ≠ "spare" := by decide +kernel
theorem ne_spare_all : ("spare" : Str) ≠ "all" := by decide +kernel
theorem ne_spare_any : ("spare" : Str) ≠ "any" := by decide +kernel
theorem ne_spare_least : ("spare" : Str) ≠ "least" := by decide +kernel
theorem ne_spare_before : ("spare" : Str) ≠ "before" := by decide +kernel
def spIsWatch (K : PySem.W.Frag) : Sp := fun vs H Q _ => ∃ r a b g parts names, vs = [.str (G.word g), r, .ref a, .ref b] ∧ RestAt K H r g ∧ Sq K H a (sV parts) ∧ Sq K H b (sV names) ∧ GateIn parts names g ∧ ∀ H', Same H H' → Q (.bl true) H'
theorem ok_is_watch {f : Addr} {fd : FuncData} (F : Fun K "is_watch" "is_watch" s_is_watch f fd) (T : Nm mg) (C_is_choice : Cal P w K mg base 2 "is_choice" ["value", "names"] (spIsChoice K)) (C_is_integer : Cal P w K mg base 1 "is_integer" ["value"] spIsInteger) :
    FnOk P w K mg base CX0 3 f fd ["word", "rest", "parts", "names"] (spIsWatch K) := by
  refine F.ok sc_is_watch (fun vs H Q E h => ?_) (fun cdv A outer s H vs Q E hr h => ?_)
  · obtain ⟨v, a, b, xs, c, ps, rfl, _⟩ := h
    rfl
  · obtain ⟨r, a, b, g, ps, ns, rfl, h, ha, hb, ok, q⟩ := h
    refine ⟨_, (pss_cons (ps_if (pt_cmpR op_eq (pv 0) pe_str (nomark _))
 (pss_one (ps_ret (pe_and (pe_cmpR op_eq (pe_callB (call_lenK (K := K) rfl) (by rfl) T.n_len (by decide +kernel) (pa_cons (pv 1) pa_nil)) pe_int (nomark _)) (pe_one (pe_cal C_is_choice (by decide) hr (by rfl) (pa_cons (pv 1) (pa_cons (pv 3) pa_nil)))))))
 pss_nil)
 (pss_cons (ps_if (pt_cmpR op_eq (pv 0) pe_str (nomark _))
 (pss_cons (ps_if (PW.pt (pw_or (pt_cmpR op_ne (pe_callB (call_lenK (K := K) rfl) (by rfl) T.n_len (by decide +kernel) (pa_cons (pv 1) pa_nil)) pe_int (nomark _)) (pw_or (pt_not (pt_val (pe_cal C_is_integer (by decide) hr (by rfl) (pa_cons (pe_ix (ix_sqK (K := K) rfl) (pv 1) pe_int (fun _ _ => rfl)) pa_nil)))) (pw_or1 (pt_not (pt_val (pe_cal C_is_choice (by decide) hr (by rfl) (pa_cons (pe_ix (ix_sqK (K := K) rfl) (pv 1) pe_int (fun _ _ => rfl)) (pa_cons (pv 3) pa_nil)))))))))
 (pss_one (ps_ret pe_bl))
 pss_nil)
 (pss_one (ps_ret (pe_chain op_le op_le pe_int (pe_ix (ix_sqK (K := K) rfl) (pv 1) pe_int (fun _ _ => rfl)) (pe_callB (call_lenK (K := K) rfl) (by rfl) T.n_len (by decide +kernel) (pa_cons (pe_ix (ix_sqK (K := K) rfl) (pv 1) pe_int (fun _ _ => rfl)) pa_nil))))))
 pss_nil)
 (pss_cons (ps_if (pt_cmpR op_eq (pv 0) pe_str (nomark _))
 (pss_one (ps_ret (pe_and (pe_cmpR op_eq (pe_callB (call_lenK (K := K) rfl) (by rfl) T.n_len (by decide +kernel) (pa_cons (pv 1) pa_nil)) pe_int (nomark _)) (pe_one (pe_cal C_is_choice (by decide) hr (by rfl) (pa_cons (pe_ix (ix_sqK (K := K) rfl) (pv 1) pe_int (fun _ _ => rfl)) (pa_cons (pv 2) pa_nil)))))))
 pss_nil)
 (pss_one (ps_ret (pe_and (pe_cmpR (op_inK (K := K) rfl) (pv 0) (pe_tup (pa_cons pe_str (pa_cons pe_str pa_nil))) (by with_unfolding_all rfl)) (pe_and (pe_cmpR op_eq (pe_callB (call_lenK (K := K) rfl) (by rfl) T.n_len (by decide +kernel) (pa_cons (pv 1) pa_nil)) pe_int (nomark _)) (pe_one (pe_cal C_is_choice (by decide) hr (by rfl) (pa_cons (pe_ix (ix_sqK (K := K) rfl) (pv 1) pe_int (fun _ _ => rfl)) (pa_cons (pv 3) pa_nil))))))))))), ?_⟩
    cases g with
    | before n x y =>
      obtain ⟨c, rfl, h⟩ := h
      refine ⟨_, rfl, rfl, _, rfl, iteD rfl ?_⟩
      refine ⟨.ref c, rfl, c, _, rfl, .inr h, rfl, true, blT rfl, iteT ?_⟩
      exact ⟨.ref c, rfl, .ref b, rfl, ⟨.ref c, b, [x, y], ns, rfl, ⟨c, rfl, h⟩, hb, ok, q⟩⟩
    | least n m ins =>
      obtain ⟨c, d, rfl, h, hd⟩ := h
      obtain ⟨ok, o1, o2⟩ := ok
      refine ⟨_, rfl, rfl, _, rfl, iteN (litNe ne_least_before) ?_⟩
      refine ⟨_, rfl, rfl, _, rfl, iteD rfl ?_⟩
      refine ⟨.ref c, rfl, c, _, rfl, .inr h, rfl, _, rfl, iteNS rfl ?_⟩
      refine ⟨.ref c, rfl, c, _, 0, .int m, rfl, rfl, .inr h, rfl, .int m, rfl, ⟨m, rfl⟩, fun H2 s2 => ⟨true, rfl, iteF ?_⟩⟩
      have h := Same.sqt s2 h
      have hd := Same.sqt s2 hd
      have hb := Same.sq s2 hb
      refine ⟨.ref c, rfl, c, _, 1, .ref d, rfl, rfl, .inr h, rfl, .ref b, rfl, ⟨.ref d, b, ins, ns, rfl, ⟨d, rfl, hd⟩, hb, ok, fun H3 s3 => ⟨true, rfl, iteF ?_⟩⟩⟩
      have h := Same.sqt s3 h
      have hd := Same.sqt s3 hd
      refine ⟨.ref c, rfl, c, _, 0, .int m, rfl, rfl, .inr h, rfl, 1, m, rfl, rfl, true, blT o1, iteT ?_⟩
      refine ⟨.ref c, rfl, c, _, 1, .ref d, rfl, rfl, .inr h, rfl, d, _, rfl, .inr hd, m, _, rfl, rfl, ?_⟩
      show Q (V.bl (decide (m ≤ ((sV ins).length : Int)))) H3
      rw [decide_eq_true (by simp [sV]; omega)]
      exact q _ (s2.trans s3)
    | spare n qs =>
      obtain ⟨c, d, rfl, h, hd⟩ := h
      refine ⟨_, rfl, rfl, _, rfl, iteN (litNe ne_spare_before) ?_⟩
      refine ⟨_, rfl, rfl, _, rfl, iteN (litNe ne_spare_least) ?_⟩
      refine ⟨_, rfl, rfl, _, rfl, iteD rfl ?_⟩
      refine ⟨.ref c, rfl, c, _, rfl, .inr h, rfl, true, blT rfl, iteT ?_⟩
      exact ⟨.ref c, rfl, c, _, 0, .ref d, rfl, rfl, .inr h, rfl, .ref a, rfl, ⟨.ref d, a, qs, ps, rfl, ⟨d, rfl, hd⟩, ha, ok, q⟩⟩
    | all n ins =>
      obtain ⟨c, d, rfl, h, hd⟩ := h
      refine ⟨_, rfl, rfl, _, rfl, iteN (litNe ne_all_before) ?_⟩
      refine ⟨_, rfl, rfl, _, rfl, iteN (litNe ne_all_least) ?_⟩
      refine ⟨_, rfl, rfl, _, rfl, iteN (litNe ne_all_spare) ?_⟩
      refine ⟨_, rfl, by show 2 ≤ sizeLine; decide, fun p np => ?_⟩
      have s2 : Same H (upd H p (.tup (sV ["all", "any"]))) := Same.new np
      refine ⟨p, sV ["all", "any"], rfl, .inr (.of upd_same), rfl, flat_sV _, true, by show V.bl (inV (.str "all") (sV ["all", "any"])) = _; rw [inV_sV, decide_eq_true (by simp)], iteT ?_⟩
      refine ⟨.ref c, rfl, c, _, rfl, .inr (Same.sqt s2 h), rfl, true, blT rfl, iteT ?_⟩
      exact ⟨.ref c, rfl, c, _, 0, .ref d, rfl, rfl, .inr (Same.sqt s2 h), rfl, .ref b, rfl, ⟨.ref d, b, ins, ns, rfl, ⟨d, rfl, Same.sqt s2 hd⟩, Same.sq s2 hb, ok, fun H3 s3 => q _ (s2.trans s3)⟩⟩
    | any n ins =>
      obtain ⟨c, d, rfl, h, hd⟩ := h
      refine ⟨_, rfl, rfl, _, rfl, iteN (litNe ne_any_before) ?_⟩
      refine ⟨_, rfl, rfl, _, rfl, iteN (litNe ne_any_least) ?_⟩
      refine ⟨_, rfl, rfl, _, rfl, iteN (litNe ne_any_spare) ?_⟩
      refine ⟨_, rfl, by show 2 ≤ sizeLine; decide, fun p np => ?_⟩
      have s2 : Same H (upd H p (.tup (sV ["all", "any"]))) := Same.new np
      refine ⟨p, sV ["all", "any"], rfl, .inr (.of upd_same), rfl, flat_sV _, true, by show V.bl (inV (.str "any") (sV ["all", "any"])) = _; rw [inV_sV, decide_eq_true (by simp)], iteT ?_⟩
      refine ⟨.ref c, rfl, c, _, rfl, .inr (Same.sqt s2 h), rfl, true, blT rfl, iteT ?_⟩
      exact ⟨.ref c, rfl, c, _, 0, .ref d, rfl, rfl, .inr (Same.sqt s2 h), rfl, .ref b, rfl, ⟨.ref d, b, ins, ns, rfl, ⟨d, rfl, Same.sqt s2 hd⟩, Same.sq s2 hb, ok, fun H3 s3 => q _ (s2.trans s3)⟩⟩
end
end Kf

set_option Elab.async false
set_option linter.all false
set_option maxRecDepth 100000
set_option maxHeartbeats 2000000
namespace Kf
open PySem PySem.Spec PyProof.Rows L2
section
variable {P : Program} {w : World} {K : PySem.W.Frag} {mg : Str → Option Value} {base : Heap}
theorem at0 {x : V} {r : List V} : atI (x :: r) 0 = some x := atI_nat (j := 0) rfl
theorem at1 {x y : V} {r : List V} : atI (x :: y :: r) 1 = some y := atI_nat (j := 1) rfl
theorem at2 {x y z : V} {r : List V} : atI (x :: y :: z :: r) 2 = some z := atI_nat (j := 2) rfl
theorem GateAt.cut {H : Hp} {v : V} {g : G} (h : GateAt K H v g) : ∃ a rest, v = .ref a ∧ SqT K H a (.str g.name :: .str g.word :: rest) ∧ ∀ H' c, KT K H H' → SqT K H' c rest → RestAt K H' (.ref c) g := by
  cases g with
  | all n ins =>
    obtain ⟨a, b, rfl, h, h2⟩ := h
    exact ⟨a, _, rfl, h, fun H' c k hc => ⟨c, b, rfl, hc, k _ _ h2⟩⟩
  | any n ins =>
    obtain ⟨a, b, rfl, h, h2⟩ := h
    exact ⟨a, _, rfl, h, fun H' c k hc => ⟨c, b, rfl, hc, k _ _ h2⟩⟩
  | least n m ins =>
    obtain ⟨a, b, rfl, h, h2⟩ := h
    exact ⟨a, _, rfl, h, fun H' c k hc => ⟨c, b, rfl, hc, k _ _ h2⟩⟩
  | before n x y =>
    obtain ⟨a, rfl, h⟩ := h
    exact ⟨a, _, rfl, h, fun H' c k hc => ⟨c, rfl, hc⟩⟩
  | spare n ps =>
    obtain ⟨a, b, rfl, h, h2⟩ := h
    exact ⟨a, _, rfl, h, fun H' c k hc => ⟨c, b, rfl, hc, k _ _ h2⟩⟩
theorem cut_from {xs : List V} {i : Nat} (h : i ≤ xs.length) : cutV xs (some (i : Int)) none = xs.drop i := by
  unfold cutV
  have e2 : HT.sIx xs.length xs.length none = xs.length := rfl
  have e1 : HT.sIx xs.length 0 (some (i : Int)) = i := by
    rw [HT.sIx_nat]
    omega
  rw [e1, e2]
  exact List.take_of_length_le (by simp)
structure GateOk (parts names : List Str) (g : G) : Prop where
  name : NameOk g.name
  new : ¬ g.name ∈ names
  ins : GateIn parts names g
def spIsGate (K : PySem.W.Frag) : Sp := fun vs H Q _ => ∃ v a b g parts names, vs = [v, .ref a, .ref b] ∧ GateAt K H v g ∧ Sq K H a (sV parts) ∧ Sq K H b (sV names) ∧ GateOk parts names g ∧ ∀ H', Same H H' → Q (.bl true) H'
theorem ok_is_gate {f : Addr} {fd : FuncData} (F : Fun K "is_gate" "is_gate" s_is_gate f fd) (T : Nm mg) (C_is_name : Cal P w K mg base 1 "is_name" ["value"] spIsName) (C_is_watch : Cal P w K mg base 3 "is_watch" ["word", "rest", "parts", "names"] (spIsWatch K)) :
    FnOk P w K mg base CX0 4 f fd ["value", "parts", "names"] (spIsGate K) := by
  refine F.ok sc_is_gate (fun vs H Q E h => ?_) (fun cdv A outer s H vs Q E hr h => ?_)
  · obtain ⟨v, a, b, g, ps, ns, rfl, _⟩ := h
    rfl
  · obtain ⟨v, a, b, g, ps, ns, rfl, h, ha, hb, ok, q⟩ := h
    obtain ⟨c, rest, rfl, hc, hrest⟩ := h.cut
    refine ⟨_, (pss_cons (ps_if (PW.pt (pw_or (pt_not (pt_val (pe_callB call_isi (by rfl) T.n_isinstance (by decide +kernel) (pa_cons (pv 0) (pa_cons (pe_bltn (v := .ty "tuple") (by rfl) T.n_tuple (by decide +kernel) rfl) pa_nil))))) (pw_or1 (pt_cmpR op_lt (pe_callB (call_lenK (K := K) rfl) (by rfl) T.n_len (by decide +kernel) (pa_cons (pv 0) pa_nil)) pe_int (nomark _)))))
 (pss_one (ps_ret pe_bl))
 pss_nil)
 (pss_cons (ps_if (PW.pt (pw_or (pt_not (pt_val (pe_cal C_is_name (by decide) hr (by rfl) (pa_cons (pe_ix ix_tup (pv 0) pe_int (fun _ _ => rfl)) pa_nil)))) (pw_or1 (pt_cmpR (op_inK (K := K) rfl) (pe_ix ix_tup (pv 0) pe_int (fun _ _ => rfl)) (pv 2) (by with_unfolding_all rfl)))))
 (pss_one (ps_ret pe_bl))
 pss_nil)
 (pss_one (ps_ret (pe_cal C_is_watch (by decide) hr (by rfl) (pa_cons (pe_ix ix_tup (pv 0) pe_int (fun _ _ => rfl)) (pa_cons (pe_slice sl_tupA (pv 0) (po_some pe_int) po_none) (pa_cons (pv 1) (pa_cons (pv 2) pa_nil))))))))), ?_⟩
    refine ⟨.ref c, rfl, _, _, .type "tuple", .type "tuple", true, rfl, .ty _, ty_tup hc, kit_ty (by decide +kernel), true, rfl, iteF ?_⟩
    refine ⟨.ref c, rfl, c, _, rfl, .inr hc, _, 2, rfl, rfl, _, rfl, iteN (by simp; omega) ?_⟩
    refine ⟨.ref c, rfl, c, _, 0, .str g.name, rfl, rfl, hc, at0, .str g.name, rfl, ⟨g.name, rfl, ok.name⟩, fun H2 s2 => ⟨true, rfl, iteF ?_⟩⟩
    have hc := Same.sqt s2 hc
    refine ⟨.ref c, rfl, c, _, 0, .str g.name, rfl, rfl, hc, at0, .ref b, rfl, b, _, rfl, Same.sq s2 hb, rfl, flat_sV _, ?_⟩
    refine ⟨false, by show V.bl (inV (.str g.name) (sV ns)) = _; rw [inV_sV, decide_eq_false ok.new], iteF ?_⟩
    refine ⟨.ref c, rfl, c, _, 1, .str g.word, rfl, rfl, hc, at1, .ref c, rfl, 2, rfl, c, _, rfl, hc, fun hw => ?_, fun _ p np => ?_⟩
    · exfalso
      have := hw.1
      rw [show (2 : Int) = ((2 : Nat) : Int) from rfl, HT.sIx_nat] at this
      simp at this
    · have s3 : Same H2 (upd H2 p (.tup (cutV (.str g.name :: .str g.word :: rest) (some 2) none))) := Same.new np
      have s4 := s2.trans s3
      have e : cutV (.str g.name :: .str g.word :: rest) (some 2) none = rest := cut_from (i := 2) (by simp)
      refine ⟨.ref a, rfl, .ref b, rfl, ⟨.ref p, a, b, g, ps, ns, rfl, hrest _ _ (Same.kt s4) (.of (by rw [upd_same, e])), Same.sq s4 ha, Same.sq s4 hb, ok.ins, fun H5 s5 => q _ (s4.trans s5)⟩⟩
structure GatesOk (parts : List Str) (l : List G) : Prop where
  lo : 1 ≤ l.length
  hi : l.length ≤ 8
  each : ∀ i g, l[i]? = some g → GateOk parts (parts ++ (l.take i).map G.name) g
def spAreGates (K : PySem.W.Frag) : Sp := fun vs H Q _ => ∃ v a xs l parts, vs = [.ref v, .ref a] ∧ Sq K H v xs ∧ Each (GateAt K H) xs l ∧ Sq K H a (sV parts) ∧ parts.length ≤ 1000 ∧ GatesOk parts l ∧ ∀ H', Same H H' → Q (.bl true) H'
theorem ok_are_gates {f : Addr} {fd : FuncData} (F : Fun K "are_gates" "are_gates" s_are_gates f fd) (T : Nm mg) (Z : Cn mg) (C_is_list : Cal P w K mg base 1 "is_list" ["value"] (spIsList K)) (C_is_gate : Cal P w K mg base 4 "is_gate" ["value", "parts", "names"] (spIsGate K)) :
    FnOk P w K mg base CX0 5 f fd ["value", "parts"] (spAreGates K) := by
  refine F.ok sc_are_gates (fun vs H Q E h => ?_) (fun cdv A outer s H vs Q E hr h => ?_)
  · obtain ⟨v, a, xs, l, ps, rfl, _⟩ := h
    rfl
  · obtain ⟨v, a, xs, l, ps, rfl, h, he, ha, hp, ok, q⟩ := h
    have hlo := ok.lo
    have hhi := ok.hi
    have el := he.1
    refine ⟨_, (pss_cons (ps_if (PW.pt (pw_or (pt_not (pt_val (pe_cal C_is_list (by decide) hr (by rfl) (pa_cons (pv 0) pa_nil)))) (pw_or1 (pt_not (pt_chain op_le op_le pe_int (pe_callB (call_lenK (K := K) rfl) (by rfl) T.n_len (by decide +kernel) (pa_cons (pv 0) pa_nil)) (pe_gc (by rfl) Z.c_MOST_GATES))))))
 (pss_one (ps_ret pe_bl))
 pss_nil)
 (pss_cons (ps_set (i := 2) sc_are_gates.nd rfl (.inl rfl) (pe_callTy call_list_of (by rfl) T.n_list (by decide +kernel) (pa_cons (pv 1) pa_nil)))
 (pss_cons (ps_for PassesOwn.never rfl (pi_sq (pv 0)) (pg_name (i := 3) sc_are_gates.nd rfl (.inl rfl))
 (pss_cons (ps_if (pt_not (pt_val (pe_cal C_is_gate (by decide) hr (by rfl) (pa_cons (pv 3) (pa_cons (pv 1) (pa_cons (pv 2) pa_nil))))))
 (pss_one (ps_ret pe_bl))
 pss_nil)
 (pss_one (ps_expr (pe_bm PySem.F.plainAttrs_list PySem.F.slot_list_append PySem.F.type_list_append mt_append (pv 2) (pa_cons (pe_ix (ix_sqK (K := K) rfl) (pv 3) pe_int (fun _ _ => rfl)) pa_nil))))))
 (pss_one (ps_ret pe_bl))))), ?_⟩
    refine ⟨.ref v, rfl, .ref v, rfl, ⟨v, xs, rfl, h⟩, fun H2 s2 => ⟨true, rfl, iteF ?_⟩⟩
    have h := Same.sq s2 h
    refine ⟨.ref v, rfl, v, xs, rfl, h, 1, _, rfl, rfl, true, blT (by omega), iteT ⟨_, 8, rfl, rfl, true, blT (by omega), iteF ?_⟩⟩
    refine ⟨.ref a, rfl, a, _, rfl, Same.sq s2 ha, fun n nn => ?_⟩
    obtain ⟨d, hd⟩ := h.b
    have s3 : Same H2 (upd H2 n (.lst (sV ps))) := Same.new nn
    refine ⟨.ref v, rfl, v, d, rfl, ⟨_, Same.sqb s3 hd⟩, for_it (walk_sq (xs := xs)) (fun i σ H3 => ∃ y, σ = [some (.ref v), some (.ref a), some (.ref n), y] ∧ Same H2 H3 ∧ H3 n = some (.lst (sV (ps ++ (l.take i).map G.name)))) ⟨none, rfl, s3, by rw [upd_same]; simp⟩ (fun i σ H3 hi p => ?_) (fun i x σ H3 H4 hi p y => ?_) (fun σ H3 p => ?_)⟩
    · obtain ⟨y, rfl, sm, hn⟩ := p
      exact Same.sqb sm hd
    · obtain ⟨_, rfl, sm, hn⟩ := p
      obtain ⟨rfl, hx⟩ := y
      obtain ⟨g, hg, r⟩ := he.2 i x hx
      have s5 := s2.trans sm
      have gok := ok.each i g hg
      refine ⟨x, rfl, .ref a, rfl, .ref n, rfl, ⟨x, a, n, g, ps, _, rfl, GateAt.kt (Same.kt s5) r, Same.sq s5 ha, .inl (.of hn), gok, fun H5 s6 => ?_⟩⟩
      refine ⟨true, rfl, iteF ?_⟩
      obtain ⟨c, rest, rfl, hc, _⟩ := (GateAt.kt (Same.kt (s5.trans s6)) r).cut
      have hn5 := s6 _ _ hn
      refine ⟨.ref n, rfl, .inl ⟨rfl, _, .of hn5⟩, .ref c, rfl, c, _, 0, .str g.name, rfl, rfl, .inr hc, at0, n, _, .str g.name, rfl, rfl, hn5, ?_, ?_⟩
      · rw [sizeLine_eq]
        simp [sV]
        omega
      · refine ⟨_, rfl, Same.at (sm.trans s6) nn, ?_⟩
        rw [upd_same, List.take_add_one, hg]
        simp [sV]
    · obtain ⟨y, rfl, sm, hn⟩ := p
      exact q _ (s2.trans sm)
end
end Kf

set_option Elab.async false
set_option linter.all false
set_option maxRecDepth 100000
set_option maxHeartbeats 2000000
namespace Kf
open PySem PySem.Spec PyProof.Rows L2
/-! ### list(d.values()) -/
def tListVals (te : TE) : TE := fun σ H Q => te σ H fun x H1 => ∃ (d : Addr) (kvs : List (Key × V)), x = .ref d ∧ H1 d = some (.dK kvs) ∧ ∀ p, H1 p = none → Q (.ref p) (upd H1 p (.lst (kvs.map (·.2))))
theorem kv_both {kvs : List (Key × V)} {vs : List (Key × Value)} (r : KV kvs vs) : ∀ {j : Nat} {x : V} {k : Key} {u : Value}, (kvs.map (·.2))[j]? = some x → vs[j]? = some (k, u) → RelV x u := by
  unfold KV at r
  induction r with
  | nil =>
    intro j x k u h
    simp at h
  | cons r t ih =>
    intro j x k u h1 h2
    cases j with
    | zero =>
      have e1 := Option.some.inj h1
      have e2 := Option.some.inj h2
      rw [e2] at r
      rw [← e1]
      exact r.2
    | succ j => exact ih (by simpa using h1) (by simpa using h2)
section
variable {X : Cx} {e : Expr} {te : TE} {p apos cpos pos : Pos}
theorem pe_listVals (hc : X.calm = true) (he : PE X e te) (hg : Gl X "list") (hm : X.mg "list" = none) (hv : bootBuiltins "list" = some (.type "list")) (hbase : attributeBase e "values" X.env (eval e X.env) = eval e X.env := by rfl) (hline : (apos.endLine == cpos.line) = true := by rfl)
    (hs : starEach [.Call (.Attribute e "values" apos) [] [] cpos] X.env = (false, eval (.Call (.Attribute e "values" apos) [] [] cpos) X.env) :: starEach [] X.env := by rfl) :
    PE X (.Call (.Name "list" p) [.Call (.Attribute e "values" apos) [] [] cpos] [] pos) (tListVals te) := by
  refine ⟨fun pins s σ H Q I hq => ?_⟩
  refine wpAny_Call_Name_kw (ld_blt I hg hm hv ?_)
  refine PyProof.Rows.callWith_type1 ?_ hs rfl
  rw [hs]
  show wpAny _ _ (spliced ((false, eval (.Call (.Attribute e "values" apos) [] [] cpos) X.env) :: backTo pos (starEach [] X.env))) _ _ s
  refine Calls.spliced_cons ?_
  refine wpAny_Call_method (T := "dict") (id := "dict.values") hbase rfl hline F.plainAttrs_dict F.slot_dict_values F.type_dict_values (thn (he.run pins s σ H _ I hq) fun u s1 ⟨x, H1, I1, rx, d, kvs, ex, hd, q⟩ => ?_)
  subst ex
  obtain rfl : u = Value.ref d := rx
  obtain ⟨hz, hs0, vs, kv, hdo⟩ := I1.hok d _ hd
  obtain ⟨ep, hat⟩ := hdo.dictAt
  have lk : kvs.length = vs.length := Paired.length kv
  have I2 : Inv X pins σ H1 { s1 with heap := s1.heap.push { cls := .type "dict_values", data := .fields #[.ref d] } } := I1.kept (t' := s1.toks) fun b ob q => Heap.get?_push_of_some _ q
  refine ⟨hdo.typeIs, hdo.mapOf.noDict, ?_⟩
  show wpAny _ _ (callWith cpos (.builtin "dict.values") [.ref d] [] []) _ X.xe s1
  refine method_meetsIn F.slot_dict_values F.entry_dict_values rfl (PySem.evalArgs_none ⟨rfl, hdo.typeIs, F.args_dict_values_1 _, _, meets_dict_values (mixKind X.prog X.w) d hs0, ⟨vs, hdo⟩, ?_⟩)
  refine Calls.spliced_nil ?_
  refine PySem.W.kdl_call (PySem.W.kdl_values (knd := mixKind X.prog X.w) (kvs := vs) (ep := ep)) (I1.ok.hd hc) ⟨⟨_, Heap.get?_push_size _ rfl, rfl, rfl⟩, hat.keep fun b ob q => Heap.get?_push_of_some _ q⟩ (by omega) fun h' tk acc c hk hS hacc => ?_
  refine ⟨.ref _, upd H1 _ (.lst (kvs.map (·.2))), I2.laid (t' := tk) hk (Nat.le_refl _) (show ObjOk X.prog X.w _ _ _ (.lst (kvs.map (·.2))) from ⟨by rw [List.length_map]; exact hz, acc.toList, c, ?_, by rw [Array.toArray_toList]; exact hS⟩), rfl, q _ (I2.hok.fresh (Nat.le_refl _))⟩
  refine vals_of_at (by rw [List.length_map]; have h1 := hacc.1; have h2 : acc.toList.length = acc.size := by simp
                        omega) fun j x u h1 h2 => ?_
  obtain ⟨k, hk2⟩ := hacc.2 j u (by rw [← Array.getElem?_toList]; exact h2)
  exact kv_both kv h1 hk2
end
end Kf

set_option Elab.async false
set_option linter.all false
set_option maxRecDepth 100000
set_option maxHeartbeats 2000000
namespace Kf
open PySem PySem.Spec PyProof.Rows L2
/-! ## tables by name -/
section
variable {α : Type}
def dS (f : α → V) (l : List (Str × α)) : List (Key × V) := l.map fun p => (.inr p.1, f p.2)
def setA (l : List (Str × α)) (n : Str) (x : α) : List (Str × α) := if (l.any fun p => decide (p.1 = n)) = true then l.map (fun p => if p.1 = n then (p.1, x) else p) else l ++ [(n, x)]
def getA (l : List (Str × α)) (n : Str) : Option α := (l.find? fun p => decide (p.1 = n)).map (·.2)
theorem valV_dS (f : α → V) (n : Str) : ∀ l : List (Str × α), valV (dS f l) (.inr n) = (getA l n).map f
  | [] => rfl
  | p :: r => by
    by_cases h : p.1 = n
    · have h2 : ((.inr p.1 : Key), f p.2).1 = (.inr n : Key) := congrArg Sum.inr h
      rw [show dS f (p :: r) = ((.inr p.1 : Key), f p.2) :: dS f r from rfl, valV_pos h2]
      simp [getA, h]
    · have h2 : ¬ ((.inr p.1 : Key), f p.2).1 = (.inr n : Key) := fun e => h (Sum.inr.inj e)
      rw [show dS f (p :: r) = ((.inr p.1 : Key), f p.2) :: dS f r from rfl, valV_neg h2, valV_dS f n r]
      simp [getA, h]
theorem any_dS (f : α → V) (n : Str) : ∀ l : List (Str × α), ((dS f l).any fun kv => decide (kv.1 = (.inr n : Key))) = l.any fun p => decide (p.1 = n)
  | [] => rfl
  | p :: r => by
    rw [show dS f (p :: r) = ((.inr p.1 : Key), f p.2) :: dS f r from rfl, List.any_cons, List.any_cons, any_dS f n r]
    by_cases h : p.1 = n
    · simp [h]
    · simp [h]
theorem map_dS (f : α → V) (n : Str) (x : α) : ∀ l : List (Str × α), (dS f l).map (fun kv => if kv.1 = (.inr n : Key) then (kv.1, f x) else kv) = dS f (l.map fun p => if p.1 = n then (p.1, x) else p)
  | [] => rfl
  | p :: r => by
    rw [show dS f (p :: r) = ((.inr p.1 : Key), f p.2) :: dS f r from rfl, List.map_cons, map_dS f n x r]
    by_cases h : p.1 = n
    · subst h
      simp [dS]
    · simp [dS, h]
theorem putK_dS (f : α → V) (l : List (Str × α)) (n : Str) (x : α) : putK (dS f l) (.inr n) (f x) = dS f (setA l n x) := by
  unfold putK setA
  rw [any_dS]
  by_cases h : (l.any fun p => decide (p.1 = n)) = true
  · rw [if_pos h, if_pos h, map_dS]
  · rw [if_neg h, if_neg h]
    simp [dS]
theorem dS_len (f : α → V) (l : List (Str × α)) : (dS f l).length = l.length := List.length_map ..
theorem dS_vals (f : α → V) (l : List (Str × α)) : (dS f l).map (·.2) = (l.map (·.2)).map f := by simp [dS]
theorem getA_any {l : List (Str × α)} {n : Str} {x : α} (h : getA l n = some x) : (l.any fun p => decide (p.1 = n)) = true := by
  unfold getA at h
  obtain ⟨p, hp, _⟩ := Option.map_eq_some_iff.mp h
  have e := List.find?_some hp
  exact List.any_eq_true.mpr ⟨p, List.mem_of_find?_eq_some hp, by simpa using e⟩
theorem setA_len {l : List (Str × α)} {n : Str} {x : α} (h : (l.any fun p => decide (p.1 = n)) = true) : (setA l n x).length = l.length := by
  unfold setA
  rw [if_pos h, List.length_map]
theorem setA_keys {l : List (Str × α)} {n : Str} {x : α} (h : (l.any fun p => decide (p.1 = n)) = true) : (setA l n x).map (·.1) = l.map (·.1) := by
  unfold setA
  rw [if_pos h, List.map_map]
  refine List.map_congr_left fun p _ => ?_
  show (if p.1 = n then (p.1, x) else p).1 = p.1
  split <;> rfl
theorem any_keys {l l' : List (Str × α)} (h : l.map (·.1) = l'.map (·.1)) (n : Str) : (l.any fun p => decide (p.1 = n)) = l'.any fun p => decide (p.1 = n) := by
  have e : ∀ m : List (Str × α), (m.any fun p => decide (p.1 = n)) = (m.map (·.1)).any fun q => decide (q = n) := fun m => by rw [List.any_map]; rfl
  rw [e, e, h]
theorem getA_of_any {l : List (Str × α)} {n : Str} (h : (l.any fun p => decide (p.1 = n)) = true) : ∃ x, getA l n = some x := by
  unfold getA
  cases e : l.find? fun p => decide (p.1 = n) with
  | none =>
    have := List.find?_eq_none.mp e
    obtain ⟨p, hp, h2⟩ := List.any_eq_true.mp h
    exact absurd h2 (this p hp)
  | some p => exact ⟨p.2, rfl⟩
end
theorem filter_one {α : Type} (p : α → Bool) (x : α) : [x].filter p = if p x = true then [x] else [] := by simp [List.filter_cons]
/-! ## what spare gates use -/
abbrev Uses := List (Str × Str)
def freeOf (fl : List Str) (us : Uses) (ps : List Str) : List Str := ps.filter fun p => !decide (p ∈ fl) && !decide (p ∈ us.map (·.2))
def emptyS : Str := ""
def take1 (fl : List Str) (us : Uses) : G → Uses
  | .spare n ps => if (getA us n).getD emptyS = emptyS ∨ (getA us n).getD emptyS ∈ fl then setA us n ((freeOf fl us ps).headD emptyS) else us
  | _ => us
def takeU (fl : List Str) (us : Uses) (gs : List G) : Uses := gs.foldl (take1 fl) us
/-- each spare gate has its place -/
def SpareIn (us : Uses) (gs : List G) : Prop := ∀ n ps, G.spare n ps ∈ gs → (us.any fun p => decide (p.1 = n)) = true
theorem take1_keys {fl : List Str} {us : Uses} {g : G} (h : ∀ n ps, g = G.spare n ps → (us.any fun p => decide (p.1 = n)) = true) : (take1 fl us g).map (·.1) = us.map (·.1) := by
  cases g with
  | spare n ps =>
    show (if (getA us n).getD emptyS = emptyS ∨ (getA us n).getD emptyS ∈ fl then setA us n ((freeOf fl us ps).headD emptyS) else us).map (·.1) = us.map (·.1)
    split
    · exact setA_keys (h n ps rfl)
    · rfl
  | _ => rfl
theorem takeU_keys {fl : List Str} : ∀ {gs : List G} {us : Uses}, SpareIn us gs → (takeU fl us gs).map (·.1) = us.map (·.1)
  | [], _, _ => rfl
  | g :: gs, us, h => by
    have e := take1_keys (fl := fl) (us := us) (g := g) (fun n ps e => h n ps (e ▸ List.mem_cons_self ..))
    show (takeU fl (take1 fl us g) gs).map (·.1) = _
    rw [takeU_keys fun n ps hm => ?_, e]
    rw [any_keys e]
    exact h n ps (List.mem_cons_of_mem _ hm)
theorem takeU_succ {fl : List Str} {us : Uses} {gs : List G} {i : Nat} {g : G} (h : gs[i]? = some g) : takeU fl us (gs.take (i + 1)) = take1 fl (takeU fl us (gs.take i)) g := by
  unfold takeU
  rw [List.take_add_one, h]
  simp
section
variable {P : Program} {w : World} {K : PySem.W.Frag} {mg : Str → Option Value} {base : Heap}
def spTakeU (K : PySem.W.Frag) : Sp := fun vs H Q _ => ∃ a b c xs gs us fl, vs = [.ref a, .ref b, .ref c] ∧ Sq K H a xs ∧ Each (GateAt K H) xs gs ∧ H b = some (.dK (dS V.str us)) ∧ Sq K H c (sV fl) ∧ SpareIn us gs ∧ us.length ≤ 1000 ∧ (∀ n ps, G.spare n ps ∈ gs → ps.length ≤ 1000) ∧
  ∀ H' p, Same H H' → H p = none → H' p = some (.dK (dS V.str (takeU fl us gs))) → Q (.ref p) H'
theorem ok_take_ {f : Addr} {fd : FuncData} {k : Nat} (F : Fun K "take" "take" s_take f fd) (T : Nm mg) : FnOk P w K mg base CX0 (k + 1) f fd ["gates", "uses", "failed"] (spTakeU K) := by
  refine F.ok sc_take (fun vs H Q E h => ?_) (fun cdv A outer s H vs Q E hr h => ?_)
  · obtain ⟨a, b, c, xs, gs, us, fl, rfl, _⟩ := h
    rfl
  · obtain ⟨a, b, c, xs, gs, us, fl, rfl, h, he, hb, hc, hsp, hul, hpl, q⟩ := h
    have hu := hu_of hr
    refine ⟨_, (pss_cons (ps_set (i := 3) sc_take.nd rfl (.inl rfl) (pe_callTy call_dictD (by rfl) T.n_dict (by decide +kernel) (pa_cons (pv 1) pa_nil)))
 (pss_cons (ps_for PassesOwn.never rfl (pi_sq (pv 0)) (pg_name (i := 4) sc_take.nd rfl (.inl rfl))
 (pss_one (ps_if (PW.pt (pw_and (pt_cmpR op_eq (pe_ix (ix_sqK (K := K) rfl) (pv 4) pe_int (fun _ _ => rfl)) pe_str (nomark _)) (pw_and1 (PW.pt (pw_or (pt_cmpR op_eq (pe_dget hu (pv 3) (pe_ix (ix_sqK (K := K) rfl) (pv 4) pe_int (fun _ _ => rfl)) (fun _ _ => rfl)) pe_str (nomark _)) (pw_or1 (pt_cmpR (op_inK (K := K) rfl) (pe_dget hu (pv 3) (pe_ix (ix_sqK (K := K) rfl) (pv 4) pe_int (fun _ _ => rfl)) (fun _ _ => rfl)) (pv 2) (by with_unfolding_all rfl))))))))
 (pss_cons (ps_set (i := 5) sc_take.nd rfl (.inr rfl) (pe_listVals rfl (pv 3) (by rfl) T.n_list (by decide +kernel)))
 (pss_cons (ps_setLc (i := 6) (own := [("part", 7)]) (g := gName 7) (by rfl) sc_take.nd rfl rfl (sw_true rfl rfl rfl (by decide +kernel)) (pi_sq (pe_ix (ix_sqK (K := K) rfl) (pv 4) pe_int (fun _ _ => rfl))) (blkOk_by (own := [("part", 7)]) (N := ["gates", "uses", "failed", "now", "gate", "used", "free", "part"]) (sc := defScope s_take) (by decide +kernel)) (fun _ _ _ _ _ => pg_name (i := 7) sc_take.nd rfl (.inl rfl)) (fun _ _ _ _ _ => pts_one (PW.pt (pw_and (pt_cmpR (op_notInK (K := K) rfl) (pv 7) (pv 2) (by with_unfolding_all rfl)) (pw_and1 (pt_cmpR (op_notInK (K := K) rfl) (pv 7) (pv 5) (by with_unfolding_all rfl)))))) (fun _ _ _ _ _ => (pv 7)))
 (pss_one (ps_dput hu (pv 3) (pe_ix (ix_sqK (K := K) rfl) (pv 4) pe_int (fun _ _ => rfl)) (pe_ifExp (pt_truth (pv 6) (by intro _; rfl)) (pe_ix ix_list (pv 6) pe_int (fun _ _ => rfl)) pe_str) rfl))))
 pss_nil)))
 (pss_one (ps_ret (pv 3))))), ?_⟩
    refine ⟨.ref b, rfl, b, _, rfl, .inl hb, fun n nn => ?_⟩
    obtain ⟨d, hd⟩ := h.b
    have s0 : Same H (upd H n (.dK (dS V.str us))) := Same.new nn
    have el := he.1
    refine ⟨.ref a, rfl, a, d, rfl, ⟨_, Same.sqb s0 hd⟩, for_it (walk_sq (xs := xs)) (fun i σ H2 => ∃ y4 y5 y6 y7, σ = [some (.ref a), some (.ref b), some (.ref c), some (.ref n), y4, y5, y6, y7] ∧ Same H H2 ∧ H2 n = some (.dK (dS V.str (takeU fl us (gs.take i))))) ⟨_, _, _, _, rfl, s0, upd_same⟩ (fun i σ H2 hi p => ?_) (fun i x σ H2 H3 hi p y => ?_) (fun σ H2 p => ?_)⟩
    · obtain ⟨_, _, _, _, _, sm, _⟩ := p
      exact Same.sqb sm hd
    · obtain ⟨y4, y5, y6, y7, rfl, sm, hn⟩ := p
      obtain ⟨rfl, hx⟩ := y
      obtain ⟨g, hg, r⟩ := he.2 i x hx
      have r := GateAt.kt (Same.kt sm) r
      have hmem := List.mem_of_getElem? hg
      have sucE := takeU_succ (fl := fl) (us := us) hg
      obtain ⟨t, rest, rfl, ht, _⟩ := r.cut
      refine ⟨.ref t, rfl, t, _, 1, .str g.word, rfl, rfl, .inr ht, at1, rfl, _, rfl, ?_⟩
      cases g with
      | spare nm ps =>
        refine iteD rfl ?_
        obtain ⟨t', u, e, ht', hu'⟩ := r
        cases e
        have hkey : ((takeU fl us (gs.take i)).any fun p => decide (p.1 = nm)) = true := by
          rw [any_keys (takeU_keys (fl := fl) (gs := gs.take i) fun n' ps' hm => hsp n' ps' (List.mem_of_mem_take hm))]
          exact hsp nm ps hmem
        obtain ⟨z, hz⟩ := getA_of_any hkey
        have hget : DGet H3 n (.str nm) (some (.str z)) := by
          have q := DGet.k (k := .inr nm) hn
          rw [valV_dS, hz] at q
          exact q
        have hlen : (takeU fl us (gs.take i)).length = us.length := by
          have e := congrArg List.length (takeU_keys (fl := fl) (gs := gs.take i) (us := us) fun n' ps' hm => hsp n' ps' (List.mem_of_mem_take hm))
          simpa using e
        refine tOr_pure (decide (z = emptyS)) (decide (z ∈ fl)) (fun Q' q' => ?_) (fun _ Q' q' => ?_) ?_
        · refine ⟨.ref n, rfl, .ref t, rfl, t, _, 0, .str nm, rfl, rfl, .inr ht', rfl, n, _, rfl, hget, rfl, _, rfl, ?_⟩
          show Q' (decide (V.str z = V.str emptyS)) H3
          rw [decStr]
          exact q'
        · refine ⟨.ref n, rfl, .ref t, rfl, t, _, 0, .str nm, rfl, rfl, .inr ht', rfl, n, _, rfl, hget, .ref c, rfl, c, _, rfl, Same.sq sm hc, rfl, flat_sV _, decide (z ∈ fl), ?_, q'⟩
          show V.bl (inV (.str z) (sV fl)) = _
          rw [inV_sV]
        have keep : ((getA (takeU fl us (gs.take i)) nm).getD emptyS = emptyS ∨ (getA (takeU fl us (gs.take i)) nm).getD emptyS ∈ fl) ↔ (z = emptyS ∨ z ∈ fl) := by rw [hz]; rfl
        refine ite2 (fun e => ?_) (fun e => ?_)
        · have hyes : z = emptyS ∨ z ∈ fl := by simpa using e
          have hvl : (dS V.str (takeU fl us (gs.take i))).map (·.2) = sV ((takeU fl us (gs.take i)).map (·.2)) := dS_vals _ _
          refine ⟨.ref n, rfl, n, _, rfl, hn, fun L nL => ?_⟩
          rw [hvl]
          have s4 : Same H3 (upd H3 L (.lst (sV ((takeU fl us (gs.take i)).map (·.2))))) := Same.new nL
          have atL : ∀ H5, Same (upd H3 L (.lst (sV ((takeU fl us (gs.take i)).map (·.2))))) H5 → H5 L = some (.lst (sV ((takeU fl us (gs.take i)).map (·.2)))) := fun H5 s5 => s5 _ _ upd_same
          have hps := hpl nm ps hmem
          refine ⟨.ref t, rfl, t, _, 2, .ref u, rfl, rfl, .inr (Same.sqt s4 ht'), rfl, u, false, rfl, ⟨_, Same.sqt s4 hu'⟩, fun D nD => ?_⟩
          refine lc_it (walk_sq (xs := sV ps)) (LP _ D fun j => sV (freeOf fl (takeU fl us (gs.take i)) (ps.take j))) (LP.zero nD rfl) (fun _ _ _ p => Same.sqb (b := false) p.sm (Same.sqt s4 hu')) (fun j x H5 H6 hj p y => ?_) (fun H5 p => ?_)
          · obtain ⟨rfl, hx⟩ := y
            have hj2 : j < ps.length := by simpa [sV] using hj
            have hx2 : (sV ps)[j]? = some (.str ps[j]) := by simp [sV, hj2]
            obtain rfl : x = .str ps[j] := Option.some.inj (hx.symm.trans hx2)
            have sc6 := Same.sq ((sm.trans s4).trans p.sm) hc
            have eT : ps.take (j + 1) = ps.take j ++ [ps[j]] := by rw [List.take_add_one, List.getElem?_eq_getElem hj2]; rfl
            refine ⟨rfl, tAnd_pure (!decide (ps[j] ∈ fl)) (!decide (ps[j] ∈ (takeU fl us (gs.take i)).map (·.2))) (fun Q' q' => ?_) (fun _ Q' q' => ?_) ?_⟩
            · refine ⟨.str ps[j], rfl, .ref c, rfl, c, _, rfl, sc6, rfl, flat_sV _, !decide (ps[j] ∈ fl), ?_, q'⟩
              show V.bl (!inV (.str ps[j]) (sV fl)) = _
              rw [inV_sV]
            · refine ⟨.str ps[j], rfl, .ref L, rfl, L, _, rfl, .inl (.of (atL _ p.sm)), rfl, flat_sV _, !decide (ps[j] ∈ (takeU fl us (gs.take i)).map (·.2)), ?_, q'⟩
              show V.bl (!inV (.str ps[j]) (sV _)) = _
              rw [inV_sV]
            · have eF : freeOf fl (takeU fl us (gs.take i)) (ps.take (j + 1)) = freeOf fl (takeU fl us (gs.take i)) (ps.take j) ++ (if (!decide (ps[j] ∈ fl) && !decide (ps[j] ∈ (takeU fl us (gs.take i)).map (·.2))) = true then [ps[j]] else []) := by
                unfold freeOf
                rw [eT, List.filter_append, filter_one]
              refine ite2 (fun e => ?_) (fun e => ?_)
              · refine ⟨.str ps[j], rfl, ?_⟩
                refine p.put nD (Same.refl _) ?_ ?_
                · rw [eF, if_pos e]
                  simp [sV]
                · rw [sizeLine_eq]
                  have : (freeOf fl (takeU fl us (gs.take i)) (ps.take j)).length ≤ (ps.take j).length := List.length_filter_le ..
                  simp [sV] at this ⊢
                  omega
              · refine p.skip (Same.refl _) ?_
                rw [eF, if_neg e]
                simp
          · have hnn : ∀ {o}, H3 n = some o → H5 n = some o := fun e => p.sm _ _ (s4 _ _ e)
            have hD : H5 D = some (.lst (sV (freeOf fl (takeU fl us (gs.take i)) ps))) := by
              rw [p.at_]
              simp [sV, List.take_of_length_le]
            have s5 := (sm.trans s4).trans p.sm
            have ht5 := Same.sqt (s4.trans p.sm) ht'
            have fin : ∀ x : Str, x = (freeOf fl (takeU fl us (gs.take i)) ps).headD emptyS → Same H (upd H5 n (.dK (putK (dS V.str (takeU fl us (gs.take i))) (.inr nm) (.str x)))) ∧ (upd H5 n (.dK (putK (dS V.str (takeU fl us (gs.take i))) (.inr nm) (.str x)))) n = some (.dK (dS V.str (takeU fl us (gs.take (i + 1))))) := fun x ex => ⟨Same.at s5 nn, by
              rw [upd_same, putK_dS V.str, sucE, ex]
              show _ = some (HO.dK (dS V.str (if _ then _ else _)))
              rw [if_pos (keep.mpr hyes)]⟩
            have hn5 := hnn hn
            have pD : ∀ x : Str, DPut H5 n (.str nm) (.str x) (upd H5 n (.dK (putK (dS V.str (takeU fl us (gs.take i))) (.inr nm) (.str x)))) := fun x => DPut.k (k := .inr nm) hn5 (small1000 (by rw [dS_len]; omega))
            refine ⟨.ref D, rfl, !(sV (freeOf fl (takeU fl us (gs.take i)) ps)).isEmpty, .inl ⟨_, .of hD, rfl⟩, ?_⟩
            cases ef : freeOf fl (takeU fl us (gs.take i)) ps with
            | nil =>
              have ex : emptyS = (freeOf fl (takeU fl us (gs.take i)) ps).headD emptyS := by rw [ef]; rfl
              refine iteF ⟨.ref n, rfl, .ref t, rfl, t, _, 0, .str nm, rfl, rfl, .inr ht5, rfl, n, _, rfl, pD emptyS, ?_⟩
              exact ⟨_, _, _, _, rfl, fin _ ex⟩
            | cons x r =>
              have ex : x = (freeOf fl (takeU fl us (gs.take i)) ps).headD emptyS := by rw [ef]; rfl
              rw [ef] at hD
              refine iteT ⟨.ref D, rfl, D, _, 0, .str x, rfl, rfl, .of hD, at0, .ref n, rfl, .ref t, rfl, t, _, 0, .str nm, rfl, rfl, .inr ht5, rfl, n, _, rfl, pD x, ?_⟩
              exact ⟨_, _, _, _, rfl, fin _ ex⟩
        · have hno : ¬ (z = emptyS ∨ z ∈ fl) := by simpa using e
          refine ⟨_, _, _, _, rfl, sm, ?_⟩
          rw [sucE, hn]
          show _ = some (HO.dK (dS V.str (if _ then _ else _)))
          rw [if_neg (fun z => hno (keep.mp z))]
      | all _ _ => exact iteN (litNe ne_all_spare) ⟨_, _, _, _, rfl, sm, by rw [sucE]; exact hn⟩
      | any _ _ => exact iteN (litNe ne_any_spare) ⟨_, _, _, _, rfl, sm, by rw [sucE]; exact hn⟩
      | least _ _ _ => exact iteN (litNe ne_least_spare) ⟨_, _, _, _, rfl, sm, by rw [sucE]; exact hn⟩
      | before _ _ _ => exact iteN (litNe ne_before_spare) ⟨_, _, _, _, rfl, sm, by rw [sucE]; exact hn⟩
    · obtain ⟨_, _, _, _, rfl, sm, hn⟩ := p
      rw [el, List.take_length] at hn
      exact ⟨.ref n, rfl, q _ n sm nn hn⟩
end
end Kf

set_option Elab.async false
set_option linter.all false
set_option maxRecDepth 100000
set_option maxHeartbeats 2000000
namespace Kf
open PySem PySem.Spec PyProof.Rows L2
theorem dc_it {J : It} {n : Nat} {G : Hp → Prop} {Y : Nat → Hp → V → Hp → Prop} (w : Walk J n G Y) {g : TG} {tt : TT} {tk tv : TE} {vs : List Nat} {σ : L2.St} {H1 : Hp} {D : Addr} {Qd : Hp → Prop} (Pv : Nat → Hp → Prop) (h0 : Pv 0 (upd H1 D (.dK []))) (hG : ∀ i H, i ≤ n → Pv i H → G H)
    (hs : ∀ i x H H', i < n → Pv i H → Y i H x H' → g x (wipe σ vs) H' fun σ2 H2 => wipe σ2 vs = wipe σ vs ∧ tt σ2 H2 fun b H3 =>
      if b = true then tk σ2 H3 fun y H4 => tv σ2 H4 fun z H5 => ∃ kvs k, y = kV k ∧ H5 D = some (.dK kvs) ∧ kvs.length < sizeLine ∧ Pv (i + 1) (upd H5 D (.dK (putK kvs k z))) else Pv (i + 1) H3) (hd : ∀ H, Pv n H → Qd H) :
    ∃ W : Nat → Nat → Hp → Prop, (∃ m, W 0 m (upd H1 D (.dK []))) ∧ ∀ i m H, W i m H →
      (J.stop i H ∧ Qd H) ∨ (J.go i H ∧ ∃ Nx : Hp → Prop, (∀ H', Nx H' → ∃ m', m' < m ∧ W (i + 1) m' H') ∧ ∀ x H', J.yld i H x H' → g x (wipe σ vs) H' fun σ2 H2 => wipe σ2 vs = wipe σ vs ∧ tt σ2 H2 fun b H3 =>
        if b = true then tk σ2 H3 fun y H4 => tv σ2 H4 fun z H5 => ∃ kvs k, y = kV k ∧ H5 D = some (.dK kvs) ∧ kvs.length < sizeLine ∧ Nx (upd H5 D (.dK (putK kvs k z))) else Nx H3) := by
  refine ⟨fun i m H => m = n - i ∧ i ≤ n ∧ Pv i H, ⟨n, by simp, Nat.zero_le _, h0⟩, ?_⟩
  rintro i m H ⟨rfl, hi, p⟩
  have q := hG i H hi p
  by_cases hlt : i < n
  · refine .inr ⟨w.goes i H hlt q, Pv (i + 1), fun H' p' => ⟨n - (i + 1), by omega, rfl, hlt, p'⟩, fun x H' y => hs i x H H' hlt p (w.yields i H x H' hlt q y)⟩
  · have e : i = n := by omega
    subst e
    exact .inl ⟨w.stops H q, hd H p⟩
structure DP (H1 : Hp) (D : Addr) (acc : Nat → List (Key × V)) (i : Nat) (H : Hp) : Prop where
  sm : Same H1 H
  at_ : H D = some (.dK (acc i))
theorem DP.zero {H1 : Hp} {D : Addr} {acc : Nat → List (Key × V)} (n : H1 D = none) (h : acc 0 = []) : DP H1 D acc 0 (upd H1 D (.dK [])) := ⟨Same.new n, by rw [upd_same, h]⟩
theorem DP.put {H1 H H4 : Hp} {D : Addr} {acc : Nat → List (Key × V)} {i : Nat} {y z : V} {k : Key} (p : DP H1 D acc i H) (n : H1 D = none) (hy : y = kV k) (sm : Same H H4) (ha : acc (i + 1) = putK (acc i) k z) (hl : (acc i).length < sizeLine) :
    ∃ kvs k, y = kV k ∧ H4 D = some (.dK kvs) ∧ kvs.length < sizeLine ∧ DP H1 D acc (i + 1) (upd H4 D (.dK (putK kvs k z))) :=
  ⟨acc i, k, hy, sm _ _ p.at_, hl, Same.at (p.sm.trans sm) n, by rw [upd_same, ha]⟩
theorem DP.skip {H1 H H4 : Hp} {D : Addr} {acc : Nat → List (Key × V)} {i : Nat} (p : DP H1 D acc i H) (sm : Same H H4) (ha : acc (i + 1) = acc i) : DP H1 D acc (i + 1) H4 := ⟨p.sm.trans sm, by rw [ha]; exact sm _ _ p.at_⟩
theorem setA_le {α : Type} (l : List (Str × α)) (n : Str) (x : α) : (setA l n x).length ≤ l.length + 1 := by
  unfold setA
  split
  · rw [List.length_map]; omega
  · rw [List.length_append]; exact Nat.le_refl _
theorem setA_any {α : Type} (l : List (Str × α)) (n m : Str) (x : α) : ((setA l n x).any fun p => decide (p.1 = m)) = ((l.any fun p => decide (p.1 = m)) || decide (n = m)) := by
  by_cases h : (l.any fun p => decide (p.1 = n)) = true
  · rw [any_keys (setA_keys h)]
    by_cases e : n = m
    · subst e
      rw [h]
      rfl
    · rw [decide_eq_false e, Bool.or_false]
  · unfold setA
    rw [if_neg h, List.any_append]
    simp
theorem fold_succ {α β : Type} (f : β → α → β) (b : β) {l : List α} {i : Nat} {x : α} (h : l[i]? = some x) : (l.take (i + 1)).foldl f b = f ((l.take i).foldl f b) x := by
  rw [List.take_add_one, h]
  simp
def init1 (us : Uses) : G → Uses
  | .spare n _ => setA us n emptyS
  | _ => us
def initU (gs : List G) : Uses := gs.foldl init1 []
theorem init1_le (us : Uses) (g : G) : (init1 us g).length ≤ us.length + 1 := by
  cases g with
  | spare n ps => exact setA_le ..
  | _ => exact Nat.le_succ _
theorem fold_le {α β : Type} {f : List β → α → List β} (h : ∀ b x, (f b x).length ≤ b.length + 1) : ∀ (l : List α) (b : List β), (l.foldl f b).length ≤ b.length + l.length
  | [], b => Nat.le_refl _
  | x :: r, b => by
    have := fold_le h r (f b x)
    have h2 := h b x
    show (r.foldl f (f b x)).length ≤ _
    rw [List.length_cons]
    omega
theorem initU_le (gs : List G) : (initU gs).length ≤ gs.length := by
  have := fold_le init1_le gs []
  simpa [initU] using this
theorem init1_mono {us : Uses} {g : G} {m : Str} (h : (us.any fun p => decide (p.1 = m)) = true) : ((init1 us g).any fun p => decide (p.1 = m)) = true := by
  cases g with
  | spare n ps =>
    show ((setA us n emptyS).any fun p => decide (p.1 = m)) = true
    rw [setA_any, h]
    rfl
  | _ => exact h
theorem init_fold {m : Str} : ∀ (gs : List G) (us : Uses), ((us.any fun p => decide (p.1 = m)) = true ∨ ∃ ps, G.spare m ps ∈ gs) → ((gs.foldl init1 us).any fun p => decide (p.1 = m)) = true
  | [], us, h => by
    rcases h with h | ⟨ps, h⟩
    · exact h
    · cases h
  | g :: gs, us, h => by
    refine init_fold gs (init1 us g) ?_
    rcases h with h | ⟨ps, h⟩
    · exact .inl (init1_mono h)
    · rcases List.mem_cons.mp h with e | h
      · refine .inl ?_
        rw [← e]
        show ((setA us m emptyS).any fun p => decide (p.1 = m)) = true
        rw [setA_any, decide_eq_true rfl, Bool.or_true]
      · exact .inr ⟨ps, h⟩
theorem initU_spare (gs : List G) : SpareIn (initU gs) gs := fun n ps h => init_fold gs [] (.inr ⟨ps, h⟩)
def firstU (gs : List G) : Uses := takeU [] (initU gs) gs
section
variable {P : Program} {w : World} {K : PySem.W.Frag} {mg : Str → Option Value} {base : Heap}
def spFirst (K : PySem.W.Frag) : Sp := fun vs H Q _ => ∃ a xs gs, vs = [.ref a] ∧ Sq K H a xs ∧ Each (GateAt K H) xs gs ∧ gs.length ≤ 1000 ∧ (∀ n ps, G.spare n ps ∈ gs → ps.length ≤ 1000) ∧ ∀ H' p, Same H H' → H p = none → H' p = some (.dK (dS V.str (firstU gs))) → Q (.ref p) H'
theorem ok_first_uses {f : Addr} {fd : FuncData} (F : Fun K "first_uses" "first_uses" s_first_uses f fd) (T : Nm mg) (C_take : Cal P w K mg base 1 "take" ["gates", "uses", "failed"] (spTakeU K)) : FnOk P w K mg base CX0 2 f fd ["gates"] (spFirst K) := by
  refine F.ok sc_first_uses (fun vs H Q E h => ?_) (fun cdv A outer s H vs Q E hr h => ?_)
  · obtain ⟨a, xs, gs, rfl, _⟩ := h
    rfl
  · obtain ⟨a, xs, gs, rfl, h, he, hgl, hpl, q⟩ := h
    have hu := hu_of hr
    refine ⟨_, (pss_one (ps_ret (pe_cal C_take (by decide) hr (by rfl) (pa_cons (pv 0) (pa_cons (pe_dc (own := [("gate", 1)]) (g := gName 1) (by rfl) sc_first_uses.nd (pi_sq (pv 0)) (blkOk_by (own := [("gate", 1)]) (N := ["gates", "gate"]) (sc := defScope s_first_uses) (by decide +kernel)) (fun _ _ _ _ _ => pg_name (i := 1) sc_first_uses.nd rfl (.inl rfl)) (fun _ _ _ _ _ => pts_one (pt_cmpR op_eq (pe_ix (ix_sqK (K := K) rfl) (pv 1) pe_int (fun _ _ => rfl)) pe_str (nomark _))) (fun _ _ _ _ _ => (pe_ix (ix_sqK (K := K) rfl) (pv 1) pe_int (fun _ _ => rfl))) (fun _ _ _ _ _ => pe_str)) (pa_cons (pe_tup pa_nil) pa_nil)))))), ?_⟩
    obtain ⟨d, hd⟩ := h.b
    have el := he.1
    refine ⟨.ref a, rfl, .ref a, rfl, a, d, rfl, ⟨_, hd⟩, fun D nD => ?_⟩
    refine dc_it (walk_sq (xs := xs)) (DP H D fun i => dS V.str ((gs.take i).foldl init1 [])) (DP.zero nD rfl) (fun _ _ _ p => Same.sqb p.sm hd) (fun i x H2 H3 hi p y => ?_) (fun H2 p => ?_)
    · obtain ⟨rfl, hx⟩ := y
      obtain ⟨g, hg, r⟩ := he.2 i x hx
      have r := GateAt.kt (Same.kt p.sm) r
      obtain ⟨t, rest, rfl, ht, _⟩ := r.cut
      have suc := fold_succ init1 ([] : Uses) hg
      have hi2 : i < gs.length := by omega
      refine ⟨rfl, .ref t, rfl, t, _, 1, .str g.word, rfl, rfl, .inr ht, at1, rfl, _, rfl, ?_⟩
      have sk : (g.word ≠ "spare") → init1 ((gs.take i).foldl init1 []) g = (gs.take i).foldl init1 [] → DP H D (fun i => dS V.str ((gs.take i).foldl init1 [])) (i + 1) H3 := fun _ e => p.skip (Same.refl _) (by rw [suc, e])
      cases g with
      | spare n ps =>
        refine iteD rfl ⟨.ref t, rfl, t, _, 0, .str n, rfl, rfl, .inr ht, at0, ?_⟩
        refine p.put nD (k := .inr n) rfl (Same.refl _) ?_ ?_
        · rw [suc, show (V.str ("" : Str)) = V.str emptyS from rfl, putK_dS V.str]
          rfl
        · rw [dS_len, sizeLine_eq]
          have := fold_le init1_le (gs.take i) []
          simp at this
          omega
      | all _ _ => exact iteN (litNe ne_all_spare) (sk ne_all_spare rfl)
      | any _ _ => exact iteN (litNe ne_any_spare) (sk ne_any_spare rfl)
      | least _ _ _ => exact iteN (litNe ne_least_spare) (sk ne_least_spare rfl)
      | before _ _ _ => exact iteN (litNe ne_before_spare) (sk ne_before_spare rfl)
    · have hD : H2 D = some (.dK (dS V.str (initU gs))) := by
        rw [p.at_, el, List.take_length]
        rfl
      refine ⟨Nat.zero_le _, fun e ne => ?_⟩
      have s3 : Same H2 (upd H2 e (.tup [])) := Same.new ne
      have s4 := p.sm.trans s3
      refine ⟨a, D, e, xs, gs, initU gs, [], rfl, Same.sq s4 h, he.imp fun _ _ r => GateAt.kt (Same.kt s4) r, s3 _ _ hD, .inr (.of upd_same), initU_spare gs, by have := initU_le gs; omega, hpl, fun H5 pp s5 np hp => ?_⟩
      exact q H5 pp (s4.trans s5) (s4.free np) hp
end
end Kf

set_option Elab.async false
set_option linter.all false
set_option maxRecDepth 100000
set_option maxHeartbeats 2000000
namespace Kf
open PySem PySem.Spec PyProof.Rows L2
abbrev Tr := List (Str × Bool)
def lookT (tr : Tr) (n : Str) : Bool := (getA tr n).getD false
def gTruth (tr : Tr) (us : Uses) : G → Bool
  | .all _ ins => ins.all (lookT tr)
  | .any _ ins => ins.any (lookT tr)
  | .least _ m ins => decide (m ≤ ((ins.filter (lookT tr)).length : Int))
  | .before _ _ _ => false
  | .spare n _ => decide ((getA us n).getD emptyS = emptyS)
def KeyIn {α : Type} (l : List (Str × α)) (n : Str) : Prop := (l.any fun p => decide (p.1 = n)) = true
/-- what it reads stands in the tables -/
def Reads1 (tr : Tr) (us : Uses) : G → Prop
  | .all _ ins => (∀ x ∈ ins, KeyIn tr x) ∧ ins.length ≤ 1000
  | .any _ ins => (∀ x ∈ ins, KeyIn tr x) ∧ ins.length ≤ 1000
  | .least _ m ins => (∀ x ∈ ins, KeyIn tr x) ∧ ins.length ≤ 1000
  | .before _ x y => KeyIn tr x ∧ KeyIn tr y
  | .spare n _ => KeyIn us n
theorem KeyIn.get {α : Type} {f : α → V} {l : List (Str × α)} {n : Str} {H : Hp} {b : Addr} (k : KeyIn l n) (h : H b = some (.dK (dS f l))) : ∃ z, getA l n = some z ∧ DGet H b (.str n) (some (f z)) := by
  obtain ⟨z, hz⟩ := getA_of_any k
  refine ⟨z, hz, ?_⟩
  have q := DGet.k (k := .inr n) h
  rw [valV_dS, hz] at q
  exact q
theorem KeyIn.look {tr : Tr} {n : Str} {H : Hp} {b : Addr} (k : KeyIn tr n) (h : H b = some (.dK (dS V.bl tr))) : DGet H b (.str n) (some (.bl (lookT tr n))) := by
  obtain ⟨z, hz, q⟩ := k.get h
  have e : lookT tr n = z := by unfold lookT; rw [hz]; rfl
  rw [e]
  exact q
theorem all_map {tr : Tr} (l : List Str) : (l.map (lookT tr)).all id = l.all (lookT tr) := by rw [List.all_map]; rfl
theorem any_map {tr : Tr} (l : List Str) : (l.map (lookT tr)).any id = l.any (lookT tr) := by rw [List.any_map]; rfl
section
variable {P : Program} {w : World} {K : PySem.W.Frag} {mg : Str → Option Value} {base : Heap}
def spGateTruth (K : PySem.W.Frag) : Sp := fun vs H Q _ => ∃ v b c g tr us, vs = [v, .ref b, .ref c] ∧ GateAt K H v g ∧ H b = some (.dK (dS V.bl tr)) ∧ H c = some (.dK (dS V.str us)) ∧ Reads1 tr us g ∧ (∀ n x y, g ≠ G.before n x y) ∧ ∀ H', Same H H' → Q (.bl (gTruth tr us g)) H'
theorem ok_gate_truth {f : Addr} {fd : FuncData} {k : Nat} (F : Fun K "gate_truth" "gate_truth" s_gate_truth f fd) (T : Nm mg) : FnOk P w K mg base CX0 (k + 1) f fd ["gate", "truths", "uses"] (spGateTruth K) := by
  refine F.ok sc_gate_truth (fun vs H Q E h => ?_) (fun cdv A outer s H vs Q E hr h => ?_)
  · obtain ⟨a, b, c, g, tr, us, rfl, _⟩ := h
    rfl
  · obtain ⟨v, b, c, g, tr, us, rfl, h, hb, hc, hk, nb, q⟩ := h
    have hu := hu_of hr
    obtain ⟨t, rest, rfl, ht, _⟩ := h.cut
    refine ⟨_, (pss_cons (ps_set (i := 3) sc_gate_truth.nd rfl (.inl rfl) (pe_ix (ix_sqK (K := K) rfl) (pv 0) pe_int (fun _ _ => rfl)))
 (pss_cons (ps_if (pt_cmpR op_eq (pv 3) pe_str (nomark _))
 (pss_one (ps_ret (pe_callB (cr_all rfl) (by rfl) T.n_all (by decide +kernel) (pa_cons (pe_lc (own := [("name", 4)]) (g := gName 4) (by rfl) sc_gate_truth.nd (pi_sq (pe_ix (ix_sqK (K := K) rfl) (pv 0) pe_int (fun _ _ => rfl))) (blkOk_by (own := [("name", 4)]) (N := ["gate", "truths", "uses", "word", "name"]) (sc := defScope s_gate_truth) (by decide +kernel)) (fun _ _ _ _ _ => pg_name (i := 4) sc_gate_truth.nd rfl (.inl rfl)) (fun _ _ _ _ _ => pts_nil) (fun _ _ _ _ _ => (pe_dget hu (pv 1) (pv 4) (fun _ _ => rfl)))) pa_nil))))
 pss_nil)
 (pss_cons (ps_if (pt_cmpR op_eq (pv 3) pe_str (nomark _))
 (pss_one (ps_ret (pe_callB (cr_any rfl) (by rfl) T.n_any (by decide +kernel) (pa_cons (pe_lc (own := [("name", 4)]) (g := gName 4) (by rfl) sc_gate_truth.nd (pi_sq (pe_ix (ix_sqK (K := K) rfl) (pv 0) pe_int (fun _ _ => rfl))) (blkOk_by (own := [("name", 4)]) (N := ["gate", "truths", "uses", "word", "name"]) (sc := defScope s_gate_truth) (by decide +kernel)) (fun _ _ _ _ _ => pg_name (i := 4) sc_gate_truth.nd rfl (.inl rfl)) (fun _ _ _ _ _ => pts_nil) (fun _ _ _ _ _ => (pe_dget hu (pv 1) (pv 4) (fun _ _ => rfl)))) pa_nil))))
 pss_nil)
 (pss_cons (ps_if (pt_cmpR op_eq (pv 3) pe_str (nomark _))
 (pss_one (ps_ret (pe_cmpR op_ge (pe_callB (call_lenK (K := K) rfl) (by rfl) T.n_len (by decide +kernel) (pa_cons (pe_lc (own := [("name", 4)]) (g := gName 4) (by rfl) sc_gate_truth.nd (pi_sq (pe_ix (ix_sqK (K := K) rfl) (pv 0) pe_int (fun _ _ => rfl))) (blkOk_by (own := [("name", 4)]) (N := ["gate", "truths", "uses", "word", "name"]) (sc := defScope s_gate_truth) (by decide +kernel)) (fun _ _ _ _ _ => pg_name (i := 4) sc_gate_truth.nd rfl (.inl rfl)) (fun _ _ _ _ _ => pts_one (pt_val (pe_dget hu (pv 1) (pv 4) (fun _ _ => rfl)))) (fun _ _ _ _ _ => (pv 4))) pa_nil)) (pe_ix (ix_sqK (K := K) rfl) (pv 0) pe_int (fun _ _ => rfl)) (nomark _))))
 pss_nil)
 (pss_one (ps_ret (pe_cmpR op_eq (pe_dget hu (pv 2) (pe_ix (ix_sqK (K := K) rfl) (pv 0) pe_int (fun _ _ => rfl)) (fun _ _ => rfl)) pe_str (nomark _)))))))), ?_⟩
    refine ⟨.ref t, rfl, t, _, 1, .str g.word, rfl, rfl, .inr ht, at1, ?_⟩
    cases g with
    | before n x y => exact absurd rfl (nb n x y)
    | all n ins =>
      obtain ⟨t', u, e, ht', hu'⟩ := h
      cases e
      refine ⟨_, rfl, rfl, _, rfl, iteD rfl ?_⟩
      refine ⟨.ref t, rfl, t, _, 2, .ref u, rfl, rfl, .inr ht', rfl, u, false, rfl, ⟨_, hu'⟩, fun D nD => ?_⟩
      refine lc_it (walk_sq (xs := sV ins)) (LP H D fun j => ((ins.take j).map (lookT tr)).map V.bl) (LP.zero nD rfl) (fun _ _ _ p => Same.sqb (b := false) p.sm hu') (fun j x H2 H3 hj p y => ?_) (fun H2 p => ?_)
      · obtain ⟨rfl, hx⟩ := y
        have hj2 : j < ins.length := by simpa [sV] using hj
        have hx2 : (sV ins)[j]? = some (.str ins[j]) := by simp [sV, hj2]
        obtain rfl : x = .str ins[j] := Option.some.inj (hx.symm.trans hx2)
        have eT : ins.take (j + 1) = ins.take j ++ [ins[j]] := by rw [List.take_add_one, List.getElem?_eq_getElem hj2]; rfl
        refine ⟨rfl, .ref b, rfl, .str ins[j], rfl, b, _, rfl, (hk.1 _ (List.getElem_mem hj2)).look (p.sm _ _ hb), ?_⟩
        have h1 := hk.2
        exact p.put nD (Same.refl _) (by show ((ins.take (j + 1)).map (lookT tr)).map V.bl = _; rw [eT, List.map_append, List.map_append]; rfl) (by rw [sizeLine_eq]; simp; omega)
      · refine ⟨D, ins.map (lookT tr), rfl, .of (by rw [p.at_]; simp [sV, List.take_of_length_le]), ?_⟩
        rw [all_map]
        exact q _ p.sm
    | any n ins =>
      obtain ⟨t', u, e, ht', hu'⟩ := h
      cases e
      refine ⟨_, rfl, rfl, _, rfl, iteN (litNe ne_any_all) ?_⟩
      refine ⟨_, rfl, rfl, _, rfl, iteD rfl ?_⟩
      refine ⟨.ref t, rfl, t, _, 2, .ref u, rfl, rfl, .inr ht', rfl, u, false, rfl, ⟨_, hu'⟩, fun D nD => ?_⟩
      refine lc_it (walk_sq (xs := sV ins)) (LP H D fun j => ((ins.take j).map (lookT tr)).map V.bl) (LP.zero nD rfl) (fun _ _ _ p => Same.sqb (b := false) p.sm hu') (fun j x H2 H3 hj p y => ?_) (fun H2 p => ?_)
      · obtain ⟨rfl, hx⟩ := y
        have hj2 : j < ins.length := by simpa [sV] using hj
        have hx2 : (sV ins)[j]? = some (.str ins[j]) := by simp [sV, hj2]
        obtain rfl : x = .str ins[j] := Option.some.inj (hx.symm.trans hx2)
        have eT : ins.take (j + 1) = ins.take j ++ [ins[j]] := by rw [List.take_add_one, List.getElem?_eq_getElem hj2]; rfl
        refine ⟨rfl, .ref b, rfl, .str ins[j], rfl, b, _, rfl, (hk.1 _ (List.getElem_mem hj2)).look (p.sm _ _ hb), ?_⟩
        have h1 := hk.2
        exact p.put nD (Same.refl _) (by show ((ins.take (j + 1)).map (lookT tr)).map V.bl = _; rw [eT, List.map_append, List.map_append]; rfl) (by rw [sizeLine_eq]; simp; omega)
      · refine ⟨D, ins.map (lookT tr), rfl, .of (by rw [p.at_]; simp [sV, List.take_of_length_le]), ?_⟩
        rw [any_map]
        exact q _ p.sm
    | least n m ins =>
      obtain ⟨t', u, e, ht', hu'⟩ := h
      cases e
      refine ⟨_, rfl, rfl, _, rfl, iteN (litNe ne_least_all) ?_⟩
      refine ⟨_, rfl, rfl, _, rfl, iteN (litNe ne_least_any) ?_⟩
      refine ⟨_, rfl, rfl, _, rfl, iteD rfl ?_⟩
      refine ⟨.ref t, rfl, t, _, 3, .ref u, rfl, rfl, .inr ht', rfl, u, false, rfl, ⟨_, hu'⟩, fun D nD => ?_⟩
      refine lc_it (walk_sq (xs := sV ins)) (LP H D fun j => sV ((ins.take j).filter (lookT tr))) (LP.zero nD rfl) (fun _ _ _ p => Same.sqb (b := false) p.sm hu') (fun j x H2 H3 hj p y => ?_) (fun H2 p => ?_)
      · obtain ⟨rfl, hx⟩ := y
        have hj2 : j < ins.length := by simpa [sV] using hj
        have hx2 : (sV ins)[j]? = some (.str ins[j]) := by simp [sV, hj2]
        obtain rfl : x = .str ins[j] := Option.some.inj (hx.symm.trans hx2)
        have eT : ins.take (j + 1) = ins.take j ++ [ins[j]] := by rw [List.take_add_one, List.getElem?_eq_getElem hj2]; rfl
        have h1 := hk.2
        refine ⟨rfl, .ref b, rfl, .str ins[j], rfl, b, _, rfl, (hk.1 _ (List.getElem_mem hj2)).look (p.sm _ _ hb), lookT tr ins[j], rfl, ite2 (fun e => ?_) (fun e => ?_)⟩
        · refine ⟨.str ins[j], rfl, ?_⟩
          refine p.put nD (Same.refl _) (by rw [eT, List.filter_append, filter_one, if_pos e]; simp [sV]) ?_
          have : ((ins.take j).filter (lookT tr)).length ≤ (ins.take j).length := List.length_filter_le ..
          rw [sizeLine_eq]
          simp [sV] at this ⊢
          omega
        · exact p.skip (Same.refl _) (by rw [eT, List.filter_append, filter_one, if_neg e]; simp)
      · have eD : H2 D = some (.lst (sV (ins.filter (lookT tr)))) := by rw [p.at_]; simp [sV, List.take_of_length_le]
        refine ⟨D, _, rfl, .inl (.of eD), .ref t, rfl, t, _, 2, .int m, rfl, rfl, .inr (Same.sqt p.sm ht'), rfl, _, m, rfl, rfl, ?_⟩
        have e : decide (m ≤ ((sV (ins.filter (lookT tr))).length : Int)) = gTruth tr us (.least n m ins) := by simp [sV, gTruth]
        show Q (V.bl (decide (m ≤ ((sV (ins.filter (lookT tr))).length : Int)))) H2
        rw [e]
        exact q _ p.sm
    | spare n ps =>
      obtain ⟨t', u, e, ht', hu'⟩ := h
      cases e
      refine ⟨_, rfl, rfl, _, rfl, iteN (litNe ne_spare_all) ?_⟩
      refine ⟨_, rfl, rfl, _, rfl, iteN (litNe ne_spare_any) ?_⟩
      refine ⟨_, rfl, rfl, _, rfl, iteN (litNe ne_spare_least) ?_⟩
      obtain ⟨z, hz, hg⟩ := KeyIn.get hk hc
      refine ⟨.ref c, rfl, .ref t, rfl, t, _, 0, .str n, rfl, rfl, .inr ht', rfl, c, _, rfl, hg, rfl, ?_⟩
      show Q (V.bl (decide (V.str z = V.str emptyS))) H
      rw [decStr]
      have e : decide (z = emptyS) = gTruth tr us (.spare n ps) := by show _ = decide ((getA us n).getD emptyS = emptyS); rw [hz]; rfl
      rw [e]
      exact q _ (Same.refl _)
end
end Kf

set_option Elab.async false
set_option linter.all false
set_option maxRecDepth 100000
set_option maxHeartbeats 2000000
namespace Kf
open PySem PySem.Spec PyProof.Rows L2 LamX NdefX
/-! ## lambdas with parameters, handed to a def of the module -/
abbrev lamFd (F : NF) (b : Expr) (pm ctv : Value) : FuncData := PySem.W.kla_fn F.name F.qual F.params b F.scope F.cl pm (.ref F.c) ctv
/-- the object at f is the lambda F with the body b -/
def LmO (f : Addr) (F : NF) (b : Expr) : HO := .ext fun h => ∃ (od : Option Addr) (sl : Array (Option Value)) (pm ctv : Value), h.get? f = some (⟨.type "function", od, .func (lamFd F b pm ctv), sl⟩ : Obj)
theorem lmO_at {P : Program} {w : World} {H : Hp} {h : Heap} {f : Addr} {F : NF} {b : Expr} (hok : HOk P w H h) (e : H f = some (LmO f F b)) : ∃ (od : Option Addr) (sl : Array (Option Value)) (pm ctv : Value), h.get? f = some (⟨.type "function", od, .func (lamFd F b pm ctv), sl⟩ : Obj) := by
  obtain ⟨z, _, _⟩ := hok f _ e
  exact z
/-- all but the tables stay, nothing goes, the tables of T stay tables -/
structure Sm (T : List NTab) (H H' : Hp) : Prop where
  kp : ExtN H H'
  nn : ∀ b, H' b = none → H b = none
  tb : TabsN T H → TabsN T H'
theorem Sm.refl (T : List NTab) (H : Hp) : Sm T H H := ⟨ExtN.refl H, fun _ h => h, id⟩
theorem Sm.trans {T : List NTab} {H H1 H2 : Hp} (a : Sm T H H1) (b : Sm T H1 H2) : Sm T H H2 := ⟨a.kp.trans b.kp, fun x h => a.nn x (b.nn x h), fun t => b.tb (a.tb t)⟩
theorem Same.sm {T : List NTab} {H H' : Hp} (s : Same H H') : Sm T H H' := ⟨ExtN.of s, fun _ h => s.free h, fun t => t.ext s⟩
section
variable {X : Cx} {pins : List (Addr × Obj)} {σ : L2.St} {H : Hp} {s : Shared}
theorem inv_lm {F : NF} {b : Expr} {o : Obj} {t' : Nat} {pm ctv : Value} (I : Inv X pins σ H s) (ho : o = { cls := .type "function", data := .func (lamFd F b pm ctv) }) :
    Inv X pins σ (upd H s.heap.objs.size (LmO s.heap.objs.size F b)) { s with heap := s.heap.push o, toks := t' } := by
  subst ho
  refine I.laid (a := s.heap.objs.size) (fun b u e => Heap.get?_push_of_some _ e) (Nat.le_refl _) ?_
  have e : (s.heap.push ({ cls := .type "function", data := .func (lamFd F b pm ctv) } : Obj)).get? s.heap.objs.size = some ({ cls := .type "function", data := .func (lamFd F b pm ctv) } : Obj) := Heap.get?_push_size _ rfl
  exact ⟨⟨_, _, pm, ctv, e⟩, ⟨_, e⟩, fun h1 h2 ⟨od, sl, p, t, z⟩ st => ⟨od, sl, p, t, st _ z⟩⟩
/-- the lambda of the text: its words -/
abbrev mkLam (X : Cx) (params : Arguments) (scope : Scope) (c' : Addr) : NF := ⟨"<lambda>", X.env.qual ++ "<lambda>", params, [], scope, cloFrom X.env.cells scope.names [], c'⟩
theorem lam_make3 {T : List NTab} {nm : Nat → Nat → Str} {c P : Addr} {params : Arguments} {body : Expr} {scope : Scope} {pos : Pos} {E : Value → Shared → Prop} {Q : Value → Shared → Prop} (I : Inv X pins σ H s) (TB : TabB X.base X.mg c P) (hcode : X.env.code = .ref c)
    (hm : (P, nm) ∈ T) (hn : nm pos.line pos.col = X.env.qual ++ "<lambda>") (hu : ∀ p ∈ T, p.1 = P → p.2 = nm) (hT : TabsN T H) (hdef : defaultsOf params X.env = ([], [])) (hfree : ∀ y ∈ scope.names, y.2 = .free → ∃ c, X.env.cells.lookup y.1 = some c)
    (h : ∀ (f c' : Addr) (H1 : Hp) (s' : Shared), Inv X pins σ H1 s' → Sm T H H1 → TabsN T H1 → H f = none → H1 f = some (LmO f (mkLam X params scope c') body) → H1 c' = some (CodeO c' (X.env.qual ++ "<lambda>")) → Q (.ref f) s') :
    wpAny (model X.prog X.w) X.A (eval (.Lambda params body scope pos) X.env) Q E s := by
  obtain ⟨ps, hP, ht, ha⟩ := (show TabN H P nm from hT _ hm)
  refine PySem.W.kla_eval hdef ?_
  have bP : s.heap.BuiltinsAt X.mg P := TB.bm.keeps I.bk
  have hP' : s.heap.get? P = some { cls := .none, data := .fields ps } := I.hok P _ hP
  cases hc : codeAmong pos ps.toList with
  | none =>
    refine PySem.W.kla_makeFunction (mg := X.mg) (c := c) (P := P) (ps := ps) (closure_ok hfree) I.ok.glob (I.mod.glob.keeps I.bk) hcode (TB.code.keeps I.bk) hP' ht hc TB.gP bP fun c' ctv h' tk hx hge hlt hrec htb => ?_
    obtain ⟨c2, oc, vs, t, e2, hoc, hd, hv⟩ := hrec
    cases e2
    have nC : H c' = none := I.hok.fresh hge
    have I1 := inv_table (t' := tk) (more := #[rawInt pos.line, rawInt pos.col, .ref c']) (h' := h') I hP (fun b o hb e => hx b o hb e) htb hge ⟨oc, vs, t, hoc, hd, hv⟩
    have hE : ExtN H (upd (upd H P (.tbl (ps ++ #[rawInt pos.line, rawInt pos.col, .ref c']))) c' (CodeO c' (X.env.qual ++ "<lambda>"))) := fun b o e n => by
      rw [upd_ne (ne_of_none e nC), upd_ne (fun z => n ps (Option.some.inj (e.symm.trans (by rw [z]; exact hP))))]
      exact e
    have eL : (ps ++ #[rawInt pos.line, rawInt pos.col, .ref c']).toList = ps.toList ++ [rawInt pos.line, rawInt pos.col, .ref c'] := by simp
    have T1 : TabsN T (upd (upd H P (.tbl (ps ++ #[rawInt pos.line, rawInt pos.col, .ref c']))) c' (CodeO c' (X.env.qual ++ "<lambda>"))) := fun p hp => by
      by_cases hb : p.1 = P
      · rw [hu p hp hb, hb]
        refine ⟨_, by rw [upd_ne (ne_of_none hP nC), upd_same], by rw [eL]; exact PySem.TriplesOk_snoc _ _ _ _ ht, fun p' cv hcv => ?_⟩
        rw [eL] at hcv
        rcases among_app2 _ ht hcv with z | ⟨z, z1, z2⟩
        · obtain ⟨c0, e1, e2⟩ := ha p' cv z
          exact ⟨c0, e1, hE _ _ e2 codeO_ne⟩
        · refine ⟨c', z, ?_⟩
          rw [← z1, ← z2, hn]
          exact upd_same
      · obtain ⟨ps', a1, a2, a3⟩ := hT p hp
        refine ⟨ps', by rw [upd_ne (ne_of_none a1 nC), upd_ne hb]; exact a1, a2, fun p' cv hcv => ?_⟩
        obtain ⟨c0, e1, e2⟩ := a3 p' cv hcv
        exact ⟨c0, e1, hE _ _ e2 codeO_ne⟩
    have nF := I1.hok.fresh (Nat.le_refl _)
    have I2 := inv_lm (F := mkLam X params scope c') (b := body) (t' := tk) (pm := (X.mg "__name__").getD .none) (ctv := ctv) I1 rfl
    have T2 := fun u : HO => T1.ext (H' := upd _ h'.objs.size u) fun b o e => (upd_ne (ne_of_none e nF)).trans e
    refine h h'.objs.size c' _ _ I2 ⟨fun b o e n => ?_, fun b e => upd_none (upd_none (upd_none e)), fun _ => T2 _⟩ (T2 _) (I.hok.fresh (Nat.le_trans hge (Nat.le_of_lt hlt))) upd_same ?_
    · have e1 := hE b o e n
      exact (upd_ne (ne_of_none e1 nF)).trans e1
    · exact (upd_ne (Nat.ne_of_lt hlt)).trans upd_same
  | some cv =>
    obtain ⟨c', e, hco⟩ := ha pos cv hc
    subst e
    rw [hn] at hco
    refine PySem.W.kla_makeFunctionHit (mg := X.mg) (c := c) (P := P) (ps := ps) (closure_ok hfree) I.ok.glob (I.mod.glob.keeps I.bk) hcode (TB.code.keeps I.bk) hP' ht hc bP fun ctv h' tk hx hsz => ?_
    have I1 : Inv X pins σ H { s with heap := h', toks := tk } := I.kept hx
    have nF : H h'.objs.size = none := I1.hok.fresh (Nat.le_refl _)
    have I2 := inv_lm (F := mkLam X params scope c') (b := body) (t' := tk) (pm := (X.mg "__name__").getD .none) (ctv := ctv) I1 rfl
    have T2 := fun u : HO => hT.ext (H' := upd _ h'.objs.size u) fun b o e => (upd_ne (ne_of_none e nF)).trans e
    refine h h'.objs.size c' _ _ I2 ⟨fun b o e n => ?_, fun b e => upd_none e, fun _ => T2 _⟩ (T2 _) nF upd_same ?_
    · exact (upd_ne (ne_of_none e nF)).trans e
    · exact (upd_ne (ne_of_none hco nF)).trans hco
end
/-- the reading of a lambda -/
def tLamV (T : List NTab) (mk : Addr → NF) (body : Expr) (q : Str) : TE := fun _ H Q => TabsN T H ∧ ∀ (f c' : Addr) (H1 : Hp), Sm T H H1 → TabsN T H1 → H f = none → H1 f = some (LmO f (mk c') body) → H1 c' = some (CodeO c' q) → Q (.ref f) H1
theorem pe_lam {X : Cx} {T : List NTab} {nm : Nat → Nat → Str} {c P : Addr} {params : Arguments} {body : Expr} {scope : Scope} {pos : Pos} (TB : TabB X.base X.mg c P) (hcode : X.env.code = .ref c) (hm : (P, nm) ∈ T) (hn : nm pos.line pos.col = X.env.qual ++ "<lambda>") (hu : ∀ p ∈ T, p.1 = P → p.2 = nm)
    (hfree : ∀ y ∈ scope.names, y.2 = .free → X.env.scope.names.lookup y.1 = some .cell ∨ X.env.scope.names.lookup y.1 = some .free) (hdef : defaultsOf params X.env = ([], [])) : PE X (.Lambda params body scope pos) (tLamV T (mkLam X params scope) body (X.env.qual ++ "<lambda>")) := by
  refine ⟨fun pins s σ H Q I h => ?_⟩
  obtain ⟨hT, h⟩ := h
  have hfr : ∀ y ∈ scope.names, y.2 = .free → ∃ c, X.env.cells.lookup y.1 = some c := fun y hy e => (hfree y hy e).elim (fun z => I.ok.has _ (.inl z)) fun z => I.ok.has _ (.inr z)
  exact lam_make3 I TB hcode hm hn hu hT hdef hfr fun f c' H1 s' I1 sm T1 f0 f1 c1 => ⟨.ref f, H1, I1, rfl, h f c' H1 sm T1 f0 f1 c1⟩
/-! ### what a lambda promises -/
structure LOk (P : Program) (w : World) (K : PySem.W.Frag) (mg : Str → Option Value) (base : Heap) (k : Nat) (f : Addr) (F : NF) (b : Expr) (ps fr : List Str) (sp : List (Option V) → List V → Hp → VK → Prop) : Prop where
  run : ∀ (A : Around) (outer : List Env) (s : Shared) (H : Hp) (us : List Value) (vs : List V) (ws : List (Option V)) (Q : VK) (E : XK), Room k A → Env0 P w K mg base A outer s H → H f = some (LmO f F b) → H F.c = some (CodeO F.c F.qual) →
    CellsAt F.cl fr ws s.heap H → Vals vs us → vs.length = ps.length → sp ws vs H Q → codeAny (model P w) A (.call (.ref f) ⟨us, []⟩) (CR CX0 outer P w H s Q E) s
theorem lok_of {P : Program} {w : World} {K : PySem.W.Frag} {mg : Str → Option Value} {base : Heap} {N ps fr : List Str} {F : NF} {b : Expr} {f : Addr} {k : Nat} {sp : List (Option V) → List V → Hp → VK → Prop} (S : NScope N ps fr F.scope)
    (hb : ∀ (pm ctv : Value) (us : List Value), us.length = ps.length → bindArgs (lamFd F b pm ctv) ⟨us, []⟩ = pure (ps.zip us))
    (hbody : ∀ (A : Around) (outer : List Env) (s : Shared) (H : Hp) (vs : List V) (ws : List (Option V)) (Q : VK) (E : XK), Room k (A.deeper (envF F f s.heap.objs.size)) → ws.length = fr.length → vs.length = ps.length → sp ws vs H Q →
      ∃ t, PE (ncx CX0 P w K mg base N F f A outer s H E) b t ∧ t (startF N vs ws) H Q) : LOk P w K mg base (k + 1) f F b ps fr sp := by
  refine ⟨fun A outer s H us vs ws Q E hr e0 hf hc C r hl hsp => ?_⟩
  have lim : s.heap.NoLimit := e0.mod.nolimit.keeps fun b o e => (e0.bs b o e).1
  obtain ⟨od, sl, pm, ctv, ho⟩ := lmO_at e0.hok hf
  refine PySem.W.kla_callFunE hr.depth ho rfl S.co S.gen rfl (codeO_at e0.hok hc) ?_
  rw [hb pm ctv us (by rw [← r.length]; exact hl)]
  refine wpAny_pure (wpAny_newFunctionEnv S.nocell (fun ⟨n, _⟩ hy => S.par n (List.of_mem_zip hy).1) (fun h₁ hns hsb => ⟨lim.fresh _ hsb, ?_⟩) S.kind)
  show codeAny _ _ (.expr b (envF F f s.heap.objs.size)) _ _
  have kp : ∀ b o, s.heap.get? b = some o → h₁.get? b = some o := fun b o e => hsb.extBut b o (Nat.ne_of_lt (Heap.lt_size e)) (Heap.get?_push_of_some _ e)
  obtain ⟨t, ht, hq⟩ := hbody A outer s H vs ws Q E (hr.deeper _) C.len hl hsp
  have I : Inv (ncx CX0 P w K mg base N F f A outer s H E) [] (startF N vs ws) H { s with heap := h₁, toks := s.toks + (ps.zip us).length } := inv_startN S hr.hd e0 hl r C hns kp
  refine PySem.W.kla_codeExpr (wpAny_mono (ht.run [] _ (startF N vs ws) H _ I hq) (fun v s' hs => ?_) fun e s' hs => hs)
  obtain ⟨w', H', J, rv, q⟩ := hs
  exact ⟨w', H', J.os, J.bare, J.base, J.hok, rv, q⟩
/-- captured cells hold what they held -/
theorem cells_un {fs : List Addr} {H H' : Hp} {h h' : Heap} {cl : List (Str × Addr)} {fr : List Str} {ws : List (Option V)} (un : Un fs [] H H' h h') (C : CellsAt cl fr ws h H) : CellsAt cl fr ws h' H' := by
  have kp : ∀ c v, H c = none → h.IsCell c v → h'.IsCell c v := fun c v n ⟨o, ho, hd⟩ => by
    obtain ⟨sl, q⟩ := un.any ho n (by simp)
    exact ⟨_, q, hd⟩
  refine ⟨C.len, fun y c e => ?_, C.inj, fun i y e => ?_⟩
  · obtain ⟨n, v, z⟩ := C.all y c e
    refine ⟨?_, v, kp c v n z⟩
    obtain ⟨o, ho, _⟩ := z
    exact un.free c o ho n (by simp)
  · obtain ⟨c, hc, hv⟩ := C.has i y e
    refine ⟨c, hc, fun v ev => ?_⟩
    obtain ⟨u, r, z⟩ := hv v ev
    exact ⟨u, r, kp c _ (C.all y c hc).1 z⟩
/-- f may be called from now on: from each state that the state (H0, s0) has led to, while J holds -/
structure LamAt (P : Program) (w : World) (K : PySem.W.Frag) (mg : Str → Option Value) (base : Heap) (k : Nat) (outer : List Env) (s0 : Shared) (H0 : Hp) (f : Addr) (n : Nat) (J : Hp → Prop) (sp : List V → Hp → VK → Prop) : Prop where
  fn : ∀ H h, HOk P w H h → J H → PySem.W.FnAt f h
  sm : ∀ H H', Same H H' → J H → J H'
  run : ∀ (A : Around) (outer' : List Env) (s : Shared) (H : Hp) (us : List Value) (vs : List V) (Q : VK) (E : XK), Room k A → Env0 P w K mg base A outer' s H → Un (frs outer) [] H0 H s0.heap s.heap → J H → Vals vs us → vs.length = n → sp vs H Q → codeAny (model P w) A (.call (.ref f) ⟨us, []⟩) (CR CX0 outer' P w H s Q E) s
theorem lamAt_of {P : Program} {w : World} {K : PySem.W.Frag} {mg : Str → Option Value} {base : Heap} {ps fr : List Str} {F : NF} {b : Expr} {f : Addr} {k : Nat} {sp : List (Option V) → List V → Hp → VK → Prop} {outer : List Env} {s0 : Shared} {H0 : Hp} {ws : List (Option V)} {J : Hp → Prop} {sp' : List V → Hp → VK → Prop}
    (L : LOk P w K mg base k f F b ps fr sp) (C : CellsAt F.cl fr ws s0.heap H0) (hJ : ∀ H, J H → H f = some (LmO f F b) ∧ H F.c = some (CodeO F.c F.qual)) (hs : ∀ H H', Same H H' → J H → J H') (hsp : ∀ vs H Q, J H → sp' vs H Q → sp ws vs H Q) :
    LamAt P w K mg base k outer s0 H0 f ps.length J sp' :=
  ⟨fun H h hok j => by
    obtain ⟨od, sl, pm, ctv, ho⟩ := lmO_at hok (hJ H j).1
    exact ⟨_, od, _, sl, ho⟩, hs, fun A outer' s H us vs Q E hr e0 un j r hl h => L.run A outer' s H us vs ws Q E hr e0 (hJ H j).1 (hJ H j).2 (cells_un un C) r hl (hsp vs H Q j h)⟩
/-! ### a local name that holds such a function is called -/
def tCallJ (i : Nat) (f : Addr) (n : Nat) (J : Hp → Prop) (sp : List V → Hp → VK → Prop) (t : TA) : TE := fun σ H Q => σ[i]? = some (some (.ref f)) ∧ J H ∧ t σ H fun vs H1 => J H1 ∧ vs.length = n ∧ sp vs H1 Q
section
variable {X : Cx} {k j n i : Nat} {f : Addr} {J : Hp → Prop} {sp : List V → Hp → VK → Prop} {x : Str} {p pos : Pos} {e : Expr} {es : List Expr} {t : TA}
theorem pe_callJ (L : LamAt X.prog X.w X.K X.mg X.base k X.outer X.s_0 X.H_0 f n J sp) (hfs : X.fs = frs X.outer) (hex : X.ex = []) (hr : Room j X.A) (hk : k ≤ j) (hN : X.N[i]? = some x) (hv : Vis X.env.scope x) (ha : PA X (e :: es) t) (hE : ∀ u s', CX0 X.stack X.H_0 X.s_0 E0 u s' → X.xe u s' := fun _ _ z => z.elim)
    (hd : (x == ("__debug__" : Str)) = false := by decide) (hcd : (x == ("__classdict__" : Str)) = false := by decide)
    (he : starEach (e :: es) X.env = (false, eval e X.env) :: starEach es X.env := by rfl) (hpl : (backTo pos (starEach es X.env)).any (·.1) = false := by rfl) : PE X (.Call (.Name x p) (e :: es) [] pos) (tCallJ i f n J sp t) := by
  refine ⟨fun pins s σ H Q I h => ?_⟩
  obtain ⟨hs, hj, ht⟩ := h
  refine wpAny_Call_Name_kw (thn ((pe_var (pos := p) hN hv hd hcd).run pins s σ H (fun v H1 => v = .ref f ∧ H1 = H) I ⟨.ref f, hs, rfl, rfl⟩) fun u s1 ⟨v, H1, I1, r1, q1⟩ => ?_)
  obtain ⟨ev, eH⟩ := q1
  subst ev
  rw [eH] at I1
  obtain rfl : u = Value.ref f := r1
  refine PySem.W.callWith_F (first := []) (L.fn _ _ I1.hok hj) (thn (ha.run pos pins s1 σ H _ I1 ht) fun us s2 ⟨vs, H2, I2, r, j2, hl, q⟩ => ⟨L.fn _ _ I2.hok j2, ?_⟩) he hpl
  show wpAny _ _ (call (.ref f) us) _ _ _
  have un : Un (frs X.outer) [] X.H_0 H2 X.s_0.heap s2.heap := by
    have b := I2.base
    rw [hfs, hex] at b
    exact b
  refine wpAny_call (codeAny_mono (L.run X.A X.stack s2 H2 us vs Q E0 (hr.mono hk) I2.env0 un j2 r hl q) fun r s' hq => ?_)
  cases r with
  | error e => exact (show False from hq).elim
  | ok fl =>
    cases fl with
    | ret u => exact I2.after hq
    | next => exact False.elim hq
    | brk => exact False.elim hq
    | cont => exact False.elim hq
end
/-! ### promises that are told of the very state -/
abbrev SpS := List Env → Shared → Sp
structure FnOkS (P : Program) (w : World) (K : PySem.W.Frag) (mg : Str → Option Value) (base : Heap) (k : Nat) (f : Addr) (fd : FuncData) (ps : List Str) (sp : SpS) : Prop where
  len : ∀ outer s vs H Q E, sp outer s vs H Q E → vs.length = ps.length
  run : ∀ (A : Around) (outer : List Env) (s : Shared) (H : Hp) (args : Args) (us : List Value) (vs : List V) (Q : VK) (E : XK), Room k A → Env0 P w K mg base A outer s H → BindsTo s fd args (ps.zip us) → Vals vs us → sp outer s vs H Q E →
    codeAny (model P w) A (.call (.ref f) args) (CR CX0 outer P w H s Q E) s
structure CalS (P : Program) (w : World) (K : PySem.W.Frag) (mg : Str → Option Value) (base : Heap) (k : Nat) (x : Str) (ps : List Str) (sp : SpS) : Prop where
  ex : ∃ f fd, mg x = some (.ref f) ∧ PySem.W.keepIn K (.ref f) = true ∧ Binds K fd ps [] ∧ FnOkS P w K mg base k f fd ps sp
theorem okS {P : Program} {w : World} {K : PySem.W.Frag} {mg : Str → Option Value} {base : Heap} {x qual : Str} {st : Stmt} {f : Addr} {fd : FuncData} {N ps : List Str} {k : Nat} {sp : SpS} (F : L2.Fun K x qual st f fd) (S : FnScope N ps (defScope st)) (len : ∀ outer s vs H Q E, sp outer s vs H Q E → vs.length = ps.length)
    (hbody : ∀ (cdv : Value) (A : Around) (outer : List Env) (s : Shared) (H : Hp) (vs : List V) (Q : VK) (E : XK), Room k (A.deeper (envOfC qual (defScope st) s.heap.objs.size f cdv)) → sp outer s vs H Q E →
      ∃ t, PSs (cxOf CX0 P w K mg base N qual (defScope st) f cdv A outer s H E).nox (defBody st) t ∧ t { nx := fun _ H' => Q .non H', rt := Q } (L2.start N vs) H) : FnOkS P w K mg base (k + 1) f fd ps sp := by
  obtain ⟨oc, od, kV, doc, pm, an, cdv, ct, osl, rfl, lk, hcd⟩ := F.ex
  refine ⟨len, fun A outer s H args us vs Q E hr e0 hb r hsp => ?_⟩
  refine run_ofS lk hcd S hr e0 hb r (len _ _ _ _ _ _ hsp) fun hr' => ?_
  obtain ⟨t, h, q⟩ := hbody cdv A outer s H vs Q E hr' hsp
  exact ⟨t, h.nox, q⟩
/-- a def whose code object is known -/
structure FunC (K : PySem.W.Frag) (x qual : Str) (st : Stmt) (f : Addr) (fd : FuncData) (c : Addr) : Prop where
  ex : ∃ (oc : Value) (od : Option Addr) (kV doc pm : Value) (an : Option Addr) (ct : Value) (osl : Array (Option Value)),
    fd = PySem.W.fnOf x qual (defArgs st) (defBody st) (defScope st) .none kV doc pm an (.ref c) ct ∧ K.lookup f = some ⟨oc, od, .func fd, osl⟩ ∧ PySem.W.codeIn K (.ref c) qual = true
theorem okC {P : Program} {w : World} {K : PySem.W.Frag} {mg : Str → Option Value} {base : Heap} {x qual : Str} {st : Stmt} {f c : Addr} {fd : FuncData} {N ps : List Str} {k : Nat} {sp : Sp} (F : FunC K x qual st f fd c) (S : FnScope N ps (defScope st)) (len : ∀ vs H Q E, sp vs H Q E → vs.length = ps.length)
    (hbody : ∀ (A : Around) (outer : List Env) (s : Shared) (H : Hp) (vs : List V) (Q : VK) (E : XK), Room k (A.deeper (envOfC qual (defScope st) s.heap.objs.size f (.ref c))) → sp vs H Q E →
      ∃ t, PSs (cxOf CX0 P w K mg base N qual (defScope st) f (.ref c) A outer s H E).nox (defBody st) t ∧ t { nx := fun _ H' => Q .non H', rt := Q } (L2.start N vs) H) : FnOk P w K mg base CX0 (k + 1) f fd ps sp := by
  obtain ⟨oc, od, kV, doc, pm, an, ct, osl, rfl, lk, hcd⟩ := F.ex
  refine fn_of lk hcd S len fun A outer s H vs Q E hr hsp => ?_
  obtain ⟨t, h, q⟩ := hbody A outer s H vs Q E hr hsp
  exact ⟨t, h.nox, q⟩
/-- a def of the module is called, its promise told of the very state; the captured cells are known -/
def tCallS (sp : SpS) (cl : List (Str × Addr)) (fr : List Str) (js : List Nat) (t : TA) : TE := fun σ H Q => t σ H fun vs H1 => ∀ outer s, CellsAt cl fr (js.map (slotAt σ)) s.heap H1 → sp outer s vs H1 Q E0
section
variable {X : Cx} {j k : Nat} {x : Str} {ps : List Str} {sp : SpS} {p pos : Pos} {e : Expr} {es : List Expr} {t : TA} {cl : List (Str × Addr)} {fr : List Str} {js : List Nat}
theorem pe_calS (C : CalS X.prog X.w X.K X.mg X.base k x ps sp) (cp : X.Ok → Caps X cl fr js) (hk : k ≤ j) (hr : Room j X.A) (hg : Gl X x) (ha : PA X (e :: es) t) (hdb : (x == ("__debug__" : Str)) = false := by decide)
    (he : starEach (e :: es) X.env = (false, eval e X.env) :: starEach es X.env := by rfl) (hpl : (backTo pos (starEach es X.env)).any (·.1) = false := by rfl) : PE X (.Call (.Name x p) (e :: es) [] pos) (tCallS sp cl fr js t) := by
  obtain ⟨f, fd, m, kp, b, F⟩ := C.ex
  refine ⟨fun pins s σ H Q I h => ?_⟩
  refine wpAny_Call_Name_kw (ld_glob I hg m ?_ hdb)
  refine PySem.W.callWith_K (h₀ := X.base) I.ok.mod.kin kp (thn (ha.run pos pins s σ H _ I h) fun us s1 ⟨vs, H1, I1, r, q⟩ => ⟨I1.kIn, ?_⟩) he hpl
  have q := q X.stack s1 (cells_of I1 (cp I1.ok))
  have hl : us.length = ps.length := by rw [← r.length]; exact F.len _ _ _ _ _ _ q
  have hb := b s1 us I1.kIn (by simpa using hl)
  rw [List.append_nil] at hb
  refine wpAny_call (codeAny_mono (F.run X.A X.stack s1 H1 ⟨us, []⟩ us vs Q E0 (hr.mono hk) I1.env0 hb r q) fun r s' hq => ?_)
  cases r with
  | error e => exact (show False from hq).elim
  | ok fl =>
    cases fl with
    | ret u => exact I1.after hq
    | next => exact False.elim hq
    | brk => exact False.elim hq
    | cont => exact False.elim hq
end
end Kf

set_option Elab.async false
set_option linter.all false
set_option maxRecDepth 100000
set_option maxHeartbeats 2000000
namespace Kf
open PySem PySem.Spec PyProof.Rows L2
section
variable {X : Cx}
theorem pg_tupK {K : PySem.W.Frag} {es : List Expr} {k : Nat} {t : TGs} {n : Nat} {pos : Pos} (hK : X.K = K) (hc : X.calm = true) (h : PGs X es t) (hn : (assignEach es X.env).length = n := by rfl) (hst : (assignEach es X.env).findIdx? (·.1) = none := by rfl) : PG X (.Tuple es k pos) (gTup K n t) := hK ▸ pg_tup hc h hn hst
/-- tuple(a list or a tuple): a tuple of the same -/
def rTupQ (K : PySem.W.Frag) : List V → Hp → VK → Prop := fun vs H Q => ∃ a xs, vs = [.ref a] ∧ Sq K H a xs ∧ ∀ p H', Same H H' → SqT K H' p xs → Q (.ref p) H'
theorem call_tupQ {K : PySem.W.Frag} (hK : X.K = K) : CallR X (.type "tuple") (rTupQ K) := by
  subst hK
  intro pins s σ H xs us Q I r h
  obtain ⟨a, ys, e, h, q⟩ := h
  refine call_tuple_of pins s σ H xs us Q I r ⟨a, ys, e, ?_⟩
  rcases h with h | h
  · exact .inl ⟨h, fun l hl => q l _ (Same.new hl) (.of upd_same)⟩
  · exact .inr ⟨h, q a H (Same.refl H) h⟩
/-- name = {k: v for ..} on one line, the name a local -/
theorem ps_setDc {i : Nat} {y : Str} {py : Pos} {kx vx tg iter : Expr} {ifs : List Expr} {scope : Scope} {own : List (Str × Nat)} {pos spos : Pos} {wi : TI} {g : TG} {tt : TT} {tk tv : TE} (hc : X.calm = true) (hN : X.N.Nodup) (hy : X.N[i]? = some y) (hyl : X.env.scope.names.lookup y = some .local)
    (hsw : swapsWith (.DictComp kx vx [⟨tg, iter, ifs, 0⟩] scope pos) (some (.Name y py)) spos.line X.env = pure true) (hi : PI X tg iter wi) (ok : BlkOk X.N X.env.scope scope own)
    (hg : ∀ (s : Shared) (H : Hp) (C : Addr) (cl : List (Str × Addr)) (fp : List Addr), PG (X.blk s H scope (compEnvC scope cl C X.env) fp) tg g) (ht : ∀ (s : Shared) (H : Hp) (C : Addr) (cl : List (Str × Addr)) (fp : List Addr), PTs (X.blk s H scope (compEnvC scope cl C X.env) fp) ifs tt)
    (hk : ∀ (s : Shared) (H : Hp) (C : Addr) (cl : List (Str × Addr)) (fp : List Addr), PE (X.blk s H scope (compEnvC scope cl C X.env) fp) kx tk)
    (he : ∀ (s : Shared) (H : Hp) (C : Addr) (cl : List (Str × Addr)) (fp : List Addr), PE (X.blk s H scope (compEnvC scope cl C X.env) fp) vx tv) (hs : ∀ x, foldedSetIterable iter X.env x = pure x := by intro _; rfl) :
    PS X (.Assign [.Name y py] (.DictComp kx vx [⟨tg, iter, ifs, 0⟩] scope pos) spos) (tAsg (tDc wi g tt tk tv (own.map (·.2))) (gName i)) := by
  refine ⟨fun pins s σ H D I h => ?_⟩
  rw [exec_Assign_Name_used _ _ _ _ hsw]
  refine wpAny_bind (wpAny_standAt (wpAny_bind ?_))
  show wpAny _ X.A (do let _ ← comprehension (.DictComp kx vx [⟨tg, iter, ifs, 0⟩] scope pos) scope X.env (firstIterPos [⟨tg, iter, ifs, 0⟩] pos) newDict false (eval iter X.env) (some (assign (.Name y py) X.env))) _ _ s
  have h : tDc wi g tt tk tv (own.map (·.2)) σ H (fun x H1 => gName i x σ H1 D.nx) := h
  refine wpAny_bind (thn (dc_core (Qf := fun _ s' => SP X pins D .next s') hc hN I hi ok hg ht hk he hs h fun L C s' m H' I' q hn f => ?_) fun _ s' hq => wpAny_pure (wpAny_pure hq))
  show wpAny _ _ (assign (.Name y py) X.env (.ref L)) _ _ _
  refine wpAny_assign_Name (store_ok2 (v := V.ref L) I' hN hy (.inl hyl) rfl (fun s2 I2 ⟨a, sb, ha⟩ => ?_) (.inr hyl))
  obtain ⟨f0, f1, f2, f3, f4, f5⟩ := f
  have haC : C ≠ a := by
    rcases ha with z | z
    · rw [z]; exact f1
    · exact fun e => f4 y a z e.symm
  refine ⟨m, hn.sameBut sb haC, fun h3 sb3 => ?_⟩
  exact ⟨_, H', I2.turned (t' := s2.toks) (fun b o hb e => (sb3.2 b hb).trans e) f0 f1 f3 f4 f5, q⟩
theorem swd_true {kx vx : Expr} {gs : List Comprehension} {scope : Scope} {pos py : Pos} {y : Str} {l : Nat} {env : Env} (hk : env.scope.kind = .function) (hy : env.scope.names.lookup y = some .local) (hl : (py.line == pos.line) = true)
    (ha : (scope.names.any fun (n, k) => n == y && (k == .local || k == .cell)) = false) : swapsWith (.DictComp kx vx gs scope pos) (some (.Name y py)) l env = pure true := by
  have ky : env.kindOf y = some .local := hy
  have hb : env.blockKind = .function := by unfold Env.blockKind; rw [hk]; rfl
  unfold swapsWith
  simp only [hb, ky, ha, Expr.pos, hl]
  rfl
end
end Kf

set_option Elab.async false
set_option linter.all false
set_option maxRecDepth 100000
set_option maxHeartbeats 2000000
namespace Kf
open PySem PySem.Spec PyProof.Rows L2
/-! ## tell -/
def part1 (fl : List Str) (tr : Tr) (p : Str × Str) : Tr := setA tr p.1 (decide (p.1 ∈ fl))
def partsTr (fl : List Str) (ps : List (Str × Str)) : Tr := ps.foldl (part1 fl) []
def truth1 (bf : G → Tr → Bool) (us : Uses) (tr : Tr) : G → Bool
  | .before n x y => bf (.before n x y) tr
  | g => gTruth tr us g
def tell1 (bf : G → Tr → Bool) (us : Uses) (tr : Tr) (g : G) : Tr := setA tr g.name (truth1 bf us tr g)
def tellM (bf : G → Tr → Bool) (fl : List Str) (us : Uses) (ps : List (Str × Str)) (gs : List G) : Tr := gs.foldl (tell1 bf us) (partsTr fl ps)
/-- what a gate reads is known -/
def ReadsK (known : List Str) (us : Uses) : G → Prop
  | .all _ ins => (∀ x ∈ ins, x ∈ known) ∧ ins.length ≤ 1000
  | .any _ ins => (∀ x ∈ ins, x ∈ known) ∧ ins.length ≤ 1000
  | .least _ _ ins => (∀ x ∈ ins, x ∈ known) ∧ ins.length ≤ 1000
  | .before _ x y => x ∈ known ∧ y ∈ known
  | .spare n _ => KeyIn us n
theorem ReadsK.at {known : List Str} {us : Uses} {tr : Tr} {g : G} (h : ReadsK known us g) (k : ∀ x ∈ known, KeyIn tr x) : Reads1 tr us g := by
  cases g with
  | all n ins => exact ⟨fun x hx => k x (h.1 x hx), h.2⟩
  | any n ins => exact ⟨fun x hx => k x (h.1 x hx), h.2⟩
  | least n m ins => exact ⟨fun x hx => k x (h.1 x hx), h.2⟩
  | before n x y => exact ⟨k x h.1, k y h.2⟩
  | spare n ps => exact h
theorem keyIn_set {α : Type} {l : List (Str × α)} {n m : Str} {x : α} (h : KeyIn l m ∨ n = m) : KeyIn (setA l n x) m := by
  unfold KeyIn
  rw [setA_any]
  rcases h with h | h
  · rw [show (l.any fun p => decide (p.1 = m)) = true from h]
    rfl
  · rw [decide_eq_true h, Bool.or_true]
theorem keyIn_fold {α β : Type} {f : List (Str × β) → α → List (Str × β)} {nm : α → Str} (hf : ∀ b x m, (KeyIn b m ∨ nm x = m) → KeyIn (f b x) m) {m : Str} : ∀ (l : List α) (b : List (Str × β)), (KeyIn b m ∨ m ∈ l.map nm) → KeyIn (l.foldl f b) m
  | [], b, h => by
    rcases h with h | h
    · exact h
    · cases h
  | x :: r, b, h => by
    refine keyIn_fold hf r (f b x) ?_
    rcases h with h | h
    · exact .inl (hf b x m (.inl h))
    · rcases List.mem_cons.mp h with e | h
      · exact .inl (hf b x m (.inr e.symm))
      · exact .inr h
theorem keyIn_parts {fl : List Str} {ps : List (Str × Str)} {m : Str} (h : m ∈ ps.map (·.1)) : KeyIn (partsTr fl ps) m := keyIn_fold (nm := fun p : Str × Str => p.1) (fun b x m h => keyIn_set h) ps [] (.inr h)
theorem keyIn_tell {bf : G → Tr → Bool} {us : Uses} {tr : Tr} {gs : List G} {m : Str} (h : KeyIn tr m ∨ m ∈ gs.map G.name) : KeyIn (gs.foldl (tell1 bf us) tr) m := keyIn_fold (nm := G.name) (fun b x m h => keyIn_set h) gs tr h
/-- the gates' inputs, one after the other -/
structure TellOk (ps : List (Str × Str)) (us : Uses) (gs : List G) : Prop where
  each : ∀ i g, gs[i]? = some g → ReadsK (ps.map (·.1) ++ (gs.take i).map G.name) us g
  pl : ps.length ≤ 400
  gl : gs.length ≤ 400
/-- what is asked of the function that tells a before gate -/
def spBf (K : PySem.W.Frag) (gs : List G) (bf : G → Tr → Bool) : List V → Hp → VK → Prop := fun vs H Q => ∃ v b n x y tr, vs = [v, .ref b] ∧ GateAt K H v (.before n x y) ∧ G.before n x y ∈ gs ∧ H b = some (.dK (dS V.bl tr)) ∧ KeyIn tr x ∧ KeyIn tr y ∧ ∀ H', Same H H' → Q (.bl (bf (.before n x y) tr)) H'
section
variable {P : Program} {w : World} {K : PySem.W.Frag} {mg : Str → Option Value} {base : Heap}
def spTell (P : Program) (w : World) (K : PySem.W.Frag) (mg : Str → Option Value) (base : Heap) : SpS := fun outer s vs H Q _ => ∃ a xs ps b ys gs c fl u us f J bf, vs = [.ref a, .ref b, .ref c, .ref u, .ref f] ∧ Sq K H a xs ∧ Each (PartAt K H) xs ps ∧ Sq K H b ys ∧ Each (GateAt K H) ys gs ∧ Sq K H c (sV fl) ∧ H u = some (.dK (dS V.str us)) ∧
  J H ∧ LamAt P w K mg base 2 outer s H f 2 J (spBf K gs bf) ∧ TellOk ps us gs ∧ ∀ H' p, Same H H' → H p = none → H' p = some (.dK (dS V.bl (tellM bf fl us ps gs))) → Q (.ref p) H'
theorem ok_tell {f : Addr} {fd : FuncData} (F : Fun K "tell" "tell" s_tell f fd) (T : Nm mg) (C_gate_truth : Cal P w K mg base 1 "gate_truth" ["gate", "truths", "uses"] (spGateTruth K)) : FnOkS P w K mg base 4 f fd ["parts", "gates", "failed", "uses", "before"] (spTell P w K mg base) := by
  refine okS F sc_tell (fun outer s vs H Q E h => ?_) (fun cdv A outer s H vs Q E hr h => ?_)
  · obtain ⟨a, xs, ps, b, ys, gs, c, fl, u, us, f, J, bf, rfl, _⟩ := h
    rfl
  · obtain ⟨a, xs, ps, b, ys, gs, c, fl, u, us, f, J, bf, rfl, ha, hea, hb, heb, hc, hu0, hJ, hL, ok, q⟩ := h
    have hu := hu_of hr
    refine ⟨_, (pss_cons (ps_setDc (i := 5) (own := [("name", 7), ("_", 8)]) (by rfl) sc_tell.nd rfl rfl (swd_true rfl rfl rfl (by decide +kernel)) (pi_sq (pv 0)) (blkOk_by (own := [("name", 7), ("_", 8)]) (N := ["parts", "gates", "failed", "uses", "before", "truths", "gate", "name", "_"]) (sc := defScope s_tell) (by decide +kernel)) (fun _ _ _ _ _ => (pg_tupK (K := K) (n := 2) rfl rfl (pgs_cons (pg_name (i := 7) sc_tell.nd rfl (.inl rfl)) (pgs_cons (pg_name (i := 8) sc_tell.nd rfl (.inl rfl)) pgs_nil)))) (fun _ _ _ _ _ => pts_nil) (fun _ _ _ _ _ => (pv 7)) (fun _ _ _ _ _ => (pe_cmpR (op_inK (K := K) rfl) (pv 7) (pv 2) (by with_unfolding_all rfl))))
 (pss_cons (ps_for PassesOwn.never rfl (pi_sq (pv 1)) (pg_name (i := 6) sc_tell.nd rfl (.inl rfl))
 (pss_one (ps_if (pt_cmpR op_eq (pe_ix (ix_sqK (K := K) rfl) (pv 6) pe_int (fun _ _ => rfl)) pe_str (nomark _))
 (pss_one (ps_dput hu (pv 5) (pe_ix (ix_sqK (K := K) rfl) (pv 6) pe_int (fun _ _ => rfl)) (pe_callJ (i := 4) hL rfl rfl hr (by decide) rfl (by first | exact Or.inl rfl | exact Or.inr (Or.inl rfl) | exact Or.inr (Or.inr rfl)) (pa_cons (pv 6) (pa_cons (pv 5) pa_nil))) rfl))
 (pss_one (ps_dput hu (pv 5) (pe_ix (ix_sqK (K := K) rfl) (pv 6) pe_int (fun _ _ => rfl)) (pe_cal C_gate_truth (by decide) hr (by rfl) (pa_cons (pv 6) (pa_cons (pv 5) (pa_cons (pv 3) pa_nil)))) rfl)))))
 (pss_one (ps_ret (pv 5))))), ?_⟩
    obtain ⟨da, hda⟩ := ha.b
    obtain ⟨db, hdb⟩ := hb.b
    have ela := hea.1
    have elb := heb.1
    have hpl := ok.pl
    have hgl := ok.gl
    have p1 : ∀ b x, (part1 fl b x).length ≤ b.length + 1 := fun b x => setA_le ..
    have t1 : ∀ b x, (tell1 bf us b x).length ≤ b.length + 1 := fun b x => setA_le ..
    refine ⟨.ref a, rfl, a, da, rfl, ⟨_, hda⟩, fun D nD => ?_⟩
    refine dc_it (walk_sq (xs := xs)) (DP H D fun i => dS V.bl ((ps.take i).foldl (part1 fl) [])) (DP.zero nD rfl) (fun _ _ _ p => Same.sqb p.sm hda) (fun i x H2 H3 hi p y => ?_) (fun H2 p => ?_)
    · obtain ⟨rfl, hx⟩ := y
      obtain ⟨pt, hpt, t, rfl, r⟩ := hea.2 i x hx
      have r := Same.sqt p.sm r
      refine ⟨t, _, rfl, r, rfl, .str pt.1, _, rfl, .str pt.2, [], rfl, rfl, rfl, .str pt.1, rfl, .str pt.1, rfl, .ref c, rfl, c, _, rfl, Same.sq p.sm hc, rfl, flat_sV _, ?_⟩
      refine p.put nD (k := .inr pt.1) rfl (Same.refl _) ?_ ?_
      · rw [fold_succ (part1 fl) ([] : Tr) hpt]
        show _ = putK _ _ (V.bl (inV (.str pt.1) (sV fl)))
        rw [inV_sV, putK_dS V.bl]
        rfl
      · rw [dS_len, sizeLine_eq]
        have := fold_le p1 (ps.take i) []
        simp at this
        omega
    · have hD : H2 D = some (.dK (dS V.bl (partsTr fl ps))) := by
        rw [p.at_, ela, List.take_length]
        rfl
      have hdb2 := Same.sqb p.sm hdb
      refine ⟨.ref b, rfl, b, db, rfl, ⟨_, hdb2⟩, for_it (walk_sq (xs := ys)) (fun i σ H3 => ∃ y6 y7 y8, σ = [some (.ref a), some (.ref b), some (.ref c), some (.ref u), some (.ref f), some (.ref D), y6, y7, y8] ∧ Same H H3 ∧ H3 D = some (.dK (dS V.bl ((gs.take i).foldl (tell1 bf us) (partsTr fl ps))))) ⟨_, _, _, rfl, p.sm, hD⟩ (fun i σ H3 hi p => ?_) (fun i x σ H3 H4 hi p y => ?_) (fun σ H3 p => ?_)⟩
      · obtain ⟨_, _, _, _, sm, _⟩ := p
        exact Same.sqb sm hdb
      · obtain ⟨y6, y7, y8, rfl, sm, hn⟩ := p
        obtain ⟨rfl, hx⟩ := y
        obtain ⟨g, hg, r⟩ := heb.2 i x hx
        have r := GateAt.kt (Same.kt sm) r
        obtain ⟨t, rest, rfl, ht, _⟩ := r.cut
        have hrd : Reads1 ((gs.take i).foldl (tell1 bf us) (partsTr fl ps)) us g := (ok.each i g hg).at fun x hx => keyIn_tell (by
          rcases List.mem_append.mp hx with h | h
          · exact .inl (keyIn_parts h)
          · exact .inr h)
        have suc := fold_succ (tell1 bf us) (partsTr fl ps) hg
        have hlen : (dS V.bl ((gs.take i).foldl (tell1 bf us) (partsTr fl ps))).length ≤ 1000 := by
          rw [dS_len]
          have h1 := fold_le t1 (gs.take i) (partsTr fl ps)
          have h2 := fold_le p1 ps []
          have h3 : (partsTr fl ps).length ≤ ps.length := by simpa [partsTr] using h2
          simp at h1
          omega
        have fin : ∀ H5 : Hp, Same H4 H5 → Same H (upd H5 D (.dK (putK (dS V.bl ((gs.take i).foldl (tell1 bf us) (partsTr fl ps))) (.inr g.name) (.bl (truth1 bf us ((gs.take i).foldl (tell1 bf us) (partsTr fl ps)) g))))) ∧ (upd H5 D (.dK (putK (dS V.bl ((gs.take i).foldl (tell1 bf us) (partsTr fl ps))) (.inr g.name) (.bl (truth1 bf us ((gs.take i).foldl (tell1 bf us) (partsTr fl ps)) g))))) D = some (.dK (dS V.bl ((gs.take (i + 1)).foldl (tell1 bf us) (partsTr fl ps)))) := fun H5 s5 => ⟨Same.at (sm.trans s5) nD, by
          rw [upd_same, putK_dS V.bl, suc]
          rfl⟩
        have pD : ∀ (H5 : Hp) (v : V), Same H4 H5 → DPut H5 D (.str g.name) v (upd H5 D (.dK (putK (dS V.bl ((gs.take i).foldl (tell1 bf us) (partsTr fl ps))) (.inr g.name) v))) := fun H5 v s5 => DPut.k (k := .inr g.name) (s5 _ _ hn) (small1000 hlen)
        refine ⟨.ref t, rfl, t, _, 1, .str g.word, rfl, rfl, .inr ht, at1, rfl, _, rfl, ?_⟩
        have other : (∀ n x y, g ≠ G.before n x y) → truth1 bf us ((gs.take i).foldl (tell1 bf us) (partsTr fl ps)) g = gTruth ((gs.take i).foldl (tell1 bf us) (partsTr fl ps)) us g := fun h => by
          cases g with
          | before n x y => exact absurd rfl (h n x y)
          | _ => rfl
        by_cases hw : ∃ n x y, g = G.before n x y
        · obtain ⟨n, x, y, rfl⟩ := hw
          refine iteD rfl ?_
          refine ⟨rfl, hL.sm _ _ sm hJ, .ref t, rfl, .ref D, rfl, hL.sm _ _ sm hJ, rfl, .ref t, D, n, x, y, _, rfl, r, List.mem_of_getElem? hg, hn, hrd.1, hrd.2, fun H5 s5 => ?_⟩
          refine ⟨.ref D, rfl, .ref t, rfl, t, _, 0, .str n, rfl, rfl, .inr (Same.sqt s5 ht), at0, D, _, rfl, pD H5 _ s5, ?_⟩
          exact ⟨_, _, _, rfl, fin H5 s5⟩
        · have nb : ∀ n x y, g ≠ G.before n x y := fun n x y e => hw ⟨n, x, y, e⟩
          have wb : g.word ≠ "before" := by
            cases g with
            | before n x y => exact absurd rfl (nb n x y)
            | all _ _ => exact ne_all_before
            | any _ _ => exact ne_any_before
            | least _ _ _ => exact ne_least_before
            | spare _ _ => exact ne_spare_before
          refine iteN (litNe wb) ?_
          refine ⟨.ref t, rfl, .ref D, rfl, .ref u, rfl, .ref t, D, u, g, _, us, rfl, r, hn, sm _ _ hu0, hrd, nb, fun H5 s5 => ?_⟩
          refine ⟨.ref D, rfl, .ref t, rfl, t, _, 0, .str g.name, rfl, rfl, .inr (Same.sqt s5 ht), at0, D, _, rfl, pD H5 _ s5, ?_⟩
          rw [← other nb]
          exact ⟨_, _, _, rfl, fin H5 s5⟩
      · obtain ⟨_, _, _, rfl, sm, hn⟩ := p
        rw [elb, List.take_length] at hn
        exact ⟨.ref D, rfl, q _ D sm nD hn⟩
end
end Kf

set_option Elab.async false
set_option linter.all false
set_option maxRecDepth 100000
set_option maxHeartbeats 2000000
namespace Kf
open PySem PySem.Spec PyProof.Rows L2 LamX NdefX
/-! ## is_top -/
theorem caps0 {X : Cx} : Caps X [] [] [] := ⟨fun y c e => (by cases e), fun y h => (by cases h), fun y h => (by cases h), rfl⟩
theorem qn_is_top : ("is_top.<locals>.<lambda>" : Str) = (("is_top" : Str) ++ ".<locals>.") ++ "<lambda>" := by decide +kernel
theorem lam_free {names : List (Str × NameKind)} {R : Str × NameKind → Prop} (h : ∀ y ∈ names, y.2 ≠ .free) : ∀ y ∈ names, y.2 = .free → R y := fun y hy e => absurd e (h y hy)
def noBefore : G → Tr → Bool := fun _ _ => false
theorem Sm.lst {T : List NTab} {H H' : Hp} {a : Addr} {o : HO} (s : Sm T H H') (h : H a = some o) (n : ∀ ps, o ≠ .tbl ps) : H' a = some o := s.kp _ _ h n
theorem Sm.sqt {T : List NTab} {K : PySem.W.Frag} {H H' : Hp} {a : Addr} {xs : List V} (e : Sm T H H') (h : SqT K H a xs) : SqT K H' a xs := by
  rcases h with (h | ⟨o, h⟩) | h
  · exact .inl (.inl (e.kp _ _ h (by intro _ z; cases z)))
  · exact .inl (.inr ⟨o, e.kp _ _ h (by intro _ z; cases z)⟩)
  · exact .inr h
theorem Sm.sql {T : List NTab} {K : PySem.W.Frag} {H H' : Hp} {a : Addr} {xs : List V} (e : Sm T H H') (h : SqL K H a xs) : SqL K H' a xs := by
  rcases h with (h | ⟨o, h⟩) | h
  · exact .inl (.inl (e.kp _ _ h (by intro _ z; cases z)))
  · exact .inl (.inr ⟨o, e.kp _ _ h (by intro _ z; cases z)⟩)
  · exact .inr h
theorem Sm.sq {T : List NTab} {K : PySem.W.Frag} {H H' : Hp} {a : Addr} {xs : List V} (e : Sm T H H') (h : Sq K H a xs) : Sq K H' a xs := by
  rcases h with h | h
  · exact .inl (e.sql h)
  · exact .inr (e.sqt h)
theorem Sm.kt {T : List NTab} {K : PySem.W.Frag} {H H' : Hp} (s : Sm T H H') : KT K H H' := fun _ _ h => s.sqt h
section
variable {P : Program} {w : World} {K : PySem.W.Frag} {mg : Str → Option Value} {base : Heap}
/-- the plant's top is the name of a gate that is false at the beginning -/
structure TopOk (ps : List (Str × Str)) (gs : List G) (tp : Str) : Prop where
  mem : tp ∈ gs.map G.name
  tell : TellOk ps (firstU gs) gs
  pool : ∀ n qs, G.spare n qs ∈ gs → qs.length ≤ 1000
  no : lookT (tellM noBefore [] (firstU gs) ps gs) tp = false
def spIsTop (K : PySem.W.Frag) (T0 : List NTab) : Sp := fun vs H Q _ => ∃ tp a xs ps b ys gs, vs = [.str tp, .ref a, .ref b] ∧ Sq K H a xs ∧ Each (PartAt K H) xs ps ∧ Sq K H b ys ∧ Each (GateAt K H) ys gs ∧ TopOk ps gs tp ∧ TabsN T0 H ∧ ∀ H', Sm T0 H H' → Q (.bl true) H'
theorem ok_is_top {f c Pt : Addr} {fd : FuncData} {T0 : List NTab} {nm : Nat → Nat → Str} (F : FunC K "is_top" "is_top" s_is_top f fd c) (T : Nm mg) (TB : TabB base mg c Pt) (hm : (Pt, nm) ∈ T0) (hn : ∀ i j, nm i j = "is_top.<locals>.<lambda>") (hun : ∀ p ∈ T0, p.1 = Pt → p.2 = nm)
    (C_first_uses : Cal P w K mg base 2 "first_uses" ["gates"] (spFirst K)) (C_tell : CalS P w K mg base 4 "tell" ["parts", "gates", "failed", "uses", "before"] (spTell P w K mg base)) : FnOk P w K mg base CX0 5 f fd ["value", "parts", "gates"] (spIsTop K T0) := by
  refine okC F sc_is_top (fun vs H Q E h => ?_) (fun A outer s H vs Q E hr h => ?_)
  · obtain ⟨tp, a, xs, ps, b, ys, gs, rfl, _⟩ := h
    rfl
  · obtain ⟨tp, a, xs, ps, b, ys, gs, rfl, ha, hea, hb, heb, ok, hT, q⟩ := h
    have hu := hu_of hr
    refine ⟨_, (pss_cons (ps_if (pt_cmpR (op_notInK (K := K) rfl) (pv 0) (pe_lc (own := [("gate", 4)]) (g := gName 4) (by rfl) sc_is_top.nd (pi_sq (pv 2)) (blkOk_by (own := [("gate", 4)]) (N := ["value", "parts", "gates", "truths", "gate"]) (sc := defScope s_is_top) (by decide +kernel)) (fun _ _ _ _ _ => pg_name (i := 4) sc_is_top.nd rfl (.inl rfl)) (fun _ _ _ _ _ => pts_nil) (fun _ _ _ _ _ => (pe_ix (ix_sqK (K := K) rfl) (pv 4) pe_int (fun _ _ => rfl)))) (by with_unfolding_all rfl))
 (pss_one (ps_ret pe_bl))
 pss_nil)
 (pss_cons (ps_set (i := 3) sc_is_top.nd rfl (.inl rfl) (pe_calS (cl := []) (fr := []) (js := []) C_tell (fun _ => caps0) (by decide) hr (by rfl) (pa_cons (pv 1) (pa_cons (pv 2) (pa_cons (pe_tup pa_nil) (pa_cons (pe_cal C_first_uses (by decide) hr (by rfl) (pa_cons (pv 2) pa_nil)) (pa_cons (pe_lam TB rfl hm (by rw [hn]; exact qn_is_top) hun (lam_free (by decide +kernel)) rfl) pa_nil)))))))
 (pss_one (ps_ret (pe_not (pe_dget hu (pv 3) (pv 0) (fun _ _ => rfl))))))), ?_⟩
    obtain ⟨d, hd⟩ := hb.b
    have el := heb.1
    have hgl := ok.tell.gl
    refine ⟨.str tp, rfl, .ref b, rfl, b, d, rfl, ⟨_, hd⟩, fun D nD => ?_⟩
    refine lc_it (walk_sq (xs := ys)) (LP H D fun i => sV ((gs.take i).map G.name)) (LP.zero nD rfl) (fun _ _ _ p => Same.sqb p.sm hd) (fun i x H2 H3 hi p y => ?_) (fun H2 p => ?_)
    · obtain ⟨rfl, hx⟩ := y
      obtain ⟨g, hg, r⟩ := heb.2 i x hx
      obtain ⟨t, rest, rfl, ht, _⟩ := (GateAt.kt (Same.kt p.sm) r).cut
      refine ⟨rfl, .ref t, rfl, t, _, 0, .str g.name, rfl, rfl, .inr ht, at0, ?_⟩
      refine p.put nD (Same.refl _) ?_ ?_
      · show sV _ = sV _ ++ [_]
        rw [List.take_add_one, hg]
        simp [sV]
      · rw [sizeLine_eq]
        simp [sV]
        omega
    · have hD : H2 D = some (.lst (sV (gs.map G.name))) := by rw [p.at_, el, List.take_length]
      refine ⟨D, _, rfl, .inl (.of hD), rfl, flat_sV _, false, by show V.bl (!inV (.str tp) (sV (gs.map G.name))) = _; rw [inV_sV, decide_eq_true ok.mem]; rfl, iteF ?_⟩
      refine ⟨.ref a, rfl, .ref b, rfl, Nat.zero_le _, fun e ne => ?_⟩
      have s3 : Same H2 (upd H2 e (.tup [])) := Same.new ne
      have s3' := p.sm.trans s3
      refine ⟨.ref b, rfl, b, ys, gs, rfl, Same.sq s3' hb, heb.imp fun _ _ r => GateAt.kt (Same.kt s3') r, by omega, ok.pool, fun H4 u s4 nu hu4 => ?_⟩
      have s4' := s3'.trans s4
      refine ⟨hT.ext s4', fun fl c' H5 sm5 T5 f0 f1 c1 => ?_⟩
      have s5 : Sm T0 H H5 := (Same.sm s4').trans sm5
      have he5 : SqT K H5 e (sV []) := sm5.sqt (Same.sqt s4 (.of upd_same))
      have hu5 := sm5.lst hu4 (by intro _ z; cases z)
      intro outer' s' cells
      refine ⟨a, xs, ps, b, ys, gs, e, [], u, firstU gs, fl, fun H' => H' fl = some (LmO fl (mkLam _ _ _ c') _) ∧ H' c' = some (CodeO c' _), noBefore, rfl, s5.sq ha, hea.imp fun _ _ r => PartAt.kt s5.kt r, s5.sq hb, heb.imp fun _ _ r => GateAt.kt s5.kt r, .inr he5, hu5, ⟨f1, c1⟩, ?_, ok.tell, fun H6 tr s6 ntr htr => ?_⟩
      · refine lamAt_of (ps := ["gate", "told"]) (fr := []) (ws := []) (sp := fun _ vs H' Q' => Q' (.bl false) H') (lok_of (N := ["gate", "told"]) (k := 1) (show NScope ["gate", "told"] ["gate", "told"] [] { kind := .function, names := [("gate", .local), ("told", .local)], isGenerator := false, isCoroutine := false } from nscope_by (by decide +kernel)) (fun pm ctv us hl => match us, hl with | [_, _], _ => rfl) (fun A outer s H vs ws Q E hr hw hl hsp => ⟨_, pe_bl, hsp⟩)) cells (fun H' j => j) (fun H' H'' sm j => ⟨sm _ _ j.1, sm _ _ j.2⟩) (fun vs H' Q' j hsp => ?_)
        obtain ⟨v, b', n, x, y, tr, _, _, _, _, _, _, q'⟩ := hsp
        exact q' H' (Same.refl _)
      · have kin : KeyIn (tellM noBefore [] (firstU gs) ps gs) tp := keyIn_tell (.inr ok.mem)
        refine ⟨.ref tr, rfl, .str tp, rfl, tr, _, rfl, kin.look htr, _, rfl, ?_⟩
        rw [ok.no]
        exact q _ (s5.trans (Same.sm s6))
end
end Kf

set_option Elab.async false
set_option linter.all false
set_option maxRecDepth 100000
set_option maxHeartbeats 2000000
namespace Kf
open PySem PySem.Spec PyProof.Rows L2 LamX NdefX
/-! ## the class Plant -/
structure SmX (x : Addr) (T : List NTab) (H H' : Hp) : Prop where
  kp : ∀ b o, H b = some o → (∀ ps, o ≠ .tbl ps) → b ≠ x → H' b = some o
  nn : ∀ b, H' b = none → H b = none
  tb : TabsN T H → TabsN T H'
theorem Sm.x {x : Addr} {T : List NTab} {H H' : Hp} (s : Sm T H H') : SmX x T H H' := ⟨fun b o e n _ => s.kp b o e n, s.nn, s.tb⟩
theorem SmX.trans {x : Addr} {T : List NTab} {H H1 H2 : Hp} (a : SmX x T H H1) (b : SmX x T H1 H2) : SmX x T H H2 := ⟨fun c o e n m => b.kp c o (a.kp c o e n m) n m, fun c h => a.nn c (b.nn c h), fun t => b.tb (a.tb t)⟩
theorem tabs_upd {T : List NTab} {H : Hp} {x : Addr} {o o' : HO} (h : H x = some o) (n : ∀ ps, o ≠ .tbl ps) (n2 : ∀ f, o ≠ .ext f) (t : TabsN T H) : TabsN T (upd H x o') := fun p hp => by
  obtain ⟨ps, a1, a2, a3⟩ := t p hp
  have nx : p.1 ≠ x := fun z => by
    rw [z, h] at a1
    exact n ps (Option.some.inj a1)
  refine ⟨ps, by rw [upd_ne nx]; exact a1, a2, fun p' cv hc => ?_⟩
  obtain ⟨c, e1, e2⟩ := a3 p' cv hc
  have hb : c ≠ x := fun z => by
    rw [z, h] at e2
    exact n2 _ (Option.some.inj e2)
  exact ⟨c, e1, by rw [upd_ne hb]; exact e2⟩
/-- a write at x itself -/
theorem SmX.at {x : Addr} {T : List NTab} {H : Hp} {o o' : HO} (h : H x = some o) (n : ∀ ps, o ≠ .tbl ps) (n2 : ∀ f, o ≠ .ext f) : SmX x T H (upd H x o') :=
  ⟨fun b u e _ m => by rw [upd_ne m]; exact e, fun b e => upd_none e, tabs_upd h n n2⟩
theorem SmX.sqt {x : Addr} {T : List NTab} {K : PySem.W.Frag} {H H' : Hp} {a : Addr} {xs : List V} (e : SmX x T H H') {C dx : Addr} {fs : List (Str × V)} (hx : H x = some (.ins C dx fs)) (h : SqT K H a xs) : SqT K H' a xs := by
  rcases h with (h | ⟨o, h⟩) | h
  · exact .inl (.inl (e.kp _ _ h (by intro _ z; cases z) (ne_of h hx (by intro z; cases z))))
  · exact .inl (.inr ⟨o, e.kp _ _ h (by intro _ z; cases z) (ne_of h hx (by intro z; cases z))⟩)
  · exact .inr h
theorem SmX.sq {x : Addr} {T : List NTab} {K : PySem.W.Frag} {H H' : Hp} {a : Addr} {xs : List V} (e : SmX x T H H') {C dx : Addr} {fs : List (Str × V)} (hx : H x = some (.ins C dx fs)) (h : Sq K H a xs) : Sq K H' a xs := by
  rcases h with h | h
  · rcases h with (h | ⟨o, h⟩) | h
    · exact .inl (.inl (.inl (e.kp _ _ h (by intro _ z; cases z) (ne_of h hx (by intro z; cases z)))))
    · exact .inl (.inl (.inr ⟨o, e.kp _ _ h (by intro _ z; cases z) (ne_of h hx (by intro z; cases z))⟩))
    · exact .inl (.inr h)
  · exact .inr (e.sqt hx h)
theorem SmX.kt {x : Addr} {T : List NTab} {K : PySem.W.Frag} {H H' : Hp} (e : SmX x T H H') {C dx : Addr} {fs : List (Str × V)} (hx : H x = some (.ins C dx fs)) : KT K H H' := fun _ _ h => e.sqt hx h
theorem f_pg : ¬ ("_parts" : Str) = "_gates" := by decide +kernel
theorem f_pc : ¬ ("_parts" : Str) = "_causes" := by decide +kernel
theorem f_pt : ¬ ("_parts" : Str) = "_top" := by decide +kernel
theorem f_gc : ¬ ("_gates" : Str) = "_causes" := by decide +kernel
theorem f_gt : ¬ ("_gates" : Str) = "_top" := by decide +kernel
theorem f_ct : ¬ ("_causes" : Str) = "_top" := by decide +kernel
def plF (p g c t : V) : List (Str × V) := [("_parts", p), ("_gates", g), ("_causes", c), ("_top", t)]
theorem putF_ne {f g : Str} {v x : V} {r : List (Str × V)} (h : ¬ g = f) : putF f v ((g, x) :: r) = (g, x) :: putF f v r := if_neg h
theorem plF_eq (p g c t : V) : putF "_top" t (putF "_causes" c (putF "_gates" g (putF "_parts" p []))) = plF p g c t := by
  rw [show putF "_parts" p [] = [(("_parts" : Str), p)] from rfl, putF_ne f_pg, show putF "_gates" g [] = [(("_gates" : Str), g)] from rfl, putF_ne f_pc, putF_ne f_gc, show putF "_causes" c [] = [(("_causes" : Str), c)] from rfl, putF_ne f_pt, putF_ne f_gt, putF_ne f_ct]
  rfl
/-- the class, as the top has made it -/
structure PlC (K : PySem.W.Frag) (mg : Str → Option Value) (C : Addr) : Prop where
  cl : Cls K C
  nP : NoAttr K C "_parts"
  nG : NoAttr K C "_gates"
  nC : NoAttr K C "_causes"
  nT : NoAttr K C "_top"
  mgC : mg "Plant" = some (.ref C)
structure PlantOk (ps : List (Str × Str)) (gs : List G) (cs : List (Str × List Str)) (tp : Str) : Prop where
  parts : PartsOk ps
  gates : GatesOk (ps.map (·.1)) gs
  causes : CausesOk (ps.map (·.1)) (ps.map (·.1) ++ gs.map G.name) cs
  top : TopOk ps gs tp
section
variable {P : Program} {w : World} {K : PySem.W.Frag} {mg : Str → Option Value} {base : Heap}
def spInit (K : PySem.W.Frag) (C : Addr) (T0 : List NTab) : Sp := fun vs H Q _ => ∃ x dx a xs ps b ys gs c zs cs tp, vs = [.ref x, .ref a, .ref b, .ref c, .str tp] ∧ H x = some (.ins C dx []) ∧ Sq K H a xs ∧ Each (PartAt K H) xs ps ∧ Sq K H b ys ∧ Each (GateAt K H) ys gs ∧ Sq K H c zs ∧ Each (CauseAt K H) zs cs ∧ PlantOk ps gs cs tp ∧ TabsN T0 H ∧
  ∀ H' pa ga ca, SmX x T0 H H' → H' x = some (.ins C dx (plF (.ref pa) (.ref ga) (.ref ca) (.str tp))) → SqT K H' pa xs → SqT K H' ga ys → SqT K H' ca zs → Q .non H'
theorem ok_init {f C : Addr} {fd : FuncData} {T0 : List NTab} (F : L2.Fun K "__init__" "Plant.__init__" s_Plant___init__ f fd) (T : Nm mg) (L : PlC K mg C) (C_are_parts : Cal P w K mg base 3 "are_parts" ["value"] (spAreParts K)) (C_are_gates : Cal P w K mg base 5 "are_gates" ["value", "parts"] (spAreGates K))
    (C_are_causes : Cal P w K mg base 4 "are_causes" ["value", "parts", "names"] (spAreCauses K)) (C_is_top : Cal P w K mg base 5 "is_top" ["value", "parts", "gates"] (spIsTop K T0)) : FnOk P w K mg base CX0 6 f fd ["self", "parts", "gates", "causes", "top"] (spInit K C T0) := by
  refine F.ok sc_Plant___init__ (fun vs H Q E h => ?_) (fun cdv A outer s H vs Q E hr h => ?_)
  · obtain ⟨x, dx, a, xs, ps, b, ys, gs, c, zs, cs, tp, rfl, _⟩ := h
    rfl
  · obtain ⟨x, dx, a, xs, ps, b, ys, gs, c, zs, cs, tp, rfl, hx, ha, hea, hb, heb, hc, hec, ok, hT, q⟩ := h
    refine ⟨_, (pss_cons (ps_if (pt_not (pt_val (pe_cal C_are_parts (by decide) hr (by rfl) (pa_cons (pv 1) pa_nil))))
 (pss_one ps_never)
 pss_nil)
 (pss_cons (ps_setLc (i := 5) (own := [("part", 6)]) (g := gName 6) (by rfl) sc_Plant___init__.nd rfl rfl (sw_true rfl rfl rfl (by decide +kernel)) (pi_sq (pv 1)) (blkOk_by (own := [("part", 6)]) (N := ["self", "parts", "gates", "causes", "top", "names", "part", "gate"]) (sc := defScope s_Plant___init__) (by decide +kernel)) (fun _ _ _ _ _ => pg_name (i := 6) sc_Plant___init__.nd rfl (.inl rfl)) (fun _ _ _ _ _ => pts_nil) (fun _ _ _ _ _ => (pe_ix (ix_sqK (K := K) rfl) (pv 6) pe_int (fun _ _ => rfl))))
 (pss_cons (ps_if (pt_not (pt_val (pe_cal C_are_gates (by decide) hr (by rfl) (pa_cons (pv 2) (pa_cons (pv 5) pa_nil)))))
 (pss_one ps_never)
 pss_nil)
 (pss_cons (ps_if (pt_not (pt_val (pe_cal C_are_causes (by decide) hr (by rfl) (pa_cons (pv 3) (pa_cons (pv 5) (pa_cons (pe_op op_cat (pv 5) (pe_lc (own := [("gate", 7)]) (g := gName 7) (by rfl) sc_Plant___init__.nd (pi_sq (pv 2)) (blkOk_by (own := [("gate", 7)]) (N := ["self", "parts", "gates", "causes", "top", "names", "part", "gate"]) (sc := defScope s_Plant___init__) (by decide +kernel)) (fun _ _ _ _ _ => pg_name (i := 7) sc_Plant___init__.nd rfl (.inl rfl)) (fun _ _ _ _ _ => pts_nil) (fun _ _ _ _ _ => (pe_ix (ix_sqK (K := K) rfl) (pv 7) pe_int (fun _ _ => rfl))))) pa_nil))))))
 (pss_one ps_never)
 pss_nil)
 (pss_cons (ps_if (pt_not (pt_val (pe_cal C_is_top (by decide) hr (by rfl) (pa_cons (pv 4) (pa_cons (pv 1) (pa_cons (pv 2) pa_nil))))))
 (pss_one ps_never)
 pss_nil)
 (pss_cons (ps_fld (pv 0) (pe_callTy (call_tupQ (K := K) rfl) (by rfl) T.n_tuple (by decide +kernel) (pa_cons (pv 1) pa_nil)) rfl)
 (pss_cons (ps_fld (pv 0) (pe_callTy (call_tupQ (K := K) rfl) (by rfl) T.n_tuple (by decide +kernel) (pa_cons (pv 2) pa_nil)) rfl)
 (pss_cons (ps_fld (pv 0) (pe_callTy (call_tupQ (K := K) rfl) (by rfl) T.n_tuple (by decide +kernel) (pa_cons (pv 3) pa_nil)) rfl)
 (pss_one (ps_fld (pv 0) (pv 4) rfl)))))))))), ?_⟩
    have hpl := ok.parts.hi
    have hgl := ok.gates.hi
    have ela := hea.1
    have elb := heb.1
    -- parts
    refine ⟨.ref a, rfl, ⟨.ref a, rfl, ⟨a, xs, ps, rfl, ha, hea, ok.parts⟩, fun H2 s2 => ⟨true, rfl, iteF ?_⟩⟩⟩
    have ha2 := Same.sq s2 ha
    obtain ⟨da, hda⟩ := ha2.b
    refine ⟨.ref a, rfl, a, da, rfl, ⟨_, hda⟩, fun N nN => ?_⟩
    refine lc_it (walk_sq (xs := xs)) (LP H2 N fun i => sV ((ps.take i).map (·.1))) (LP.zero nN rfl) (fun _ _ _ p => Same.sqb p.sm hda) (fun i x H3 H4 hi p y => ?_) (fun H3 p => ?_)
    · obtain ⟨rfl, hx⟩ := y
      obtain ⟨pt, hpt, t, rfl, ht⟩ := hea.2 i x hx
      refine ⟨rfl, .ref t, rfl, t, _, 0, .str pt.1, rfl, rfl, .inr (Same.sqt (s2.trans p.sm) ht), at0, ?_⟩
      refine p.put nN (Same.refl _) ?_ ?_
      · show sV _ = sV _ ++ [_]
        rw [List.take_add_one, hpt]
        simp [sV]
      · rw [sizeLine_eq]
        simp [sV]
        omega
    have hN : H3 N = some (.lst (sV (ps.map (·.1)))) := by rw [p.at_, ela, List.take_length]
    have s3 := s2.trans p.sm
    -- gates
    refine ⟨.ref b, rfl, .ref N, rfl, ⟨b, N, ys, gs, ps.map (·.1), rfl, Same.sq s3 hb, heb.imp fun _ _ r => GateAt.kt (Same.kt s3) r, .inl (.of hN), by simp; omega, ok.gates, fun H4 s4 => ⟨true, rfl, iteF ?_⟩⟩⟩
    have s4' := s3.trans s4
    have hN4 := s4 _ _ hN
    obtain ⟨db, hdb⟩ := (Same.sq s4' hb).b
    -- causes
    refine ⟨.ref c, rfl, .ref N, rfl, .ref N, rfl, .ref b, rfl, b, db, rfl, ⟨_, hdb⟩, fun M nM => ?_⟩
    refine lc_it (walk_sq (xs := ys)) (LP H4 M fun i => sV ((gs.take i).map G.name)) (LP.zero nM rfl) (fun _ _ _ p => Same.sqb p.sm hdb) (fun i x H5 H6 hi p y => ?_) (fun H5 p5 => ?_)
    · obtain ⟨rfl, hx⟩ := y
      obtain ⟨g, hg, r⟩ := heb.2 i x hx
      obtain ⟨t, rest, rfl, ht, _⟩ := (GateAt.kt (Same.kt (s4'.trans p.sm)) r).cut
      refine ⟨rfl, .ref t, rfl, t, _, 0, .str g.name, rfl, rfl, .inr ht, at0, ?_⟩
      refine p.put nM (Same.refl _) ?_ ?_
      · show sV _ = sV _ ++ [_]
        rw [List.take_add_one, hg]
        simp [sV]
      · rw [sizeLine_eq]
        simp [sV]
        omega
    have hM : H5 M = some (.lst (sV (gs.map G.name))) := by rw [p5.at_, elb, List.take_length]
    refine ⟨N, M, _, _, rfl, rfl, p5.sm _ _ hN4, hM, by rw [sizeLine_eq]; simp [sV]; omega, fun W nW => ?_⟩
    have s6 : Same H5 (upd H5 W (.lst (sV (ps.map (·.1)) ++ sV (gs.map G.name)))) := Same.new nW
    have s6' := (s4'.trans p5.sm).trans s6
    have eW : sV (ps.map (·.1)) ++ sV (gs.map G.name) = sV (ps.map (·.1) ++ gs.map G.name) := by simp [sV]
    refine ⟨c, N, W, zs, cs, ps.map (·.1), ps.map (·.1) ++ gs.map G.name, rfl, Same.sq s6' hc, hec.imp fun _ _ r => CauseAt.kt (Same.kt s6') r, .inl (.of (s6 _ _ (p5.sm _ _ hN4))), .inl (.of (by rw [upd_same, eW])), ok.causes, fun H7 s7 => ⟨true, rfl, iteF ?_⟩⟩
    have s7' := s6'.trans s7
    -- top
    refine ⟨.str tp, rfl, .ref a, rfl, .ref b, rfl, ⟨tp, a, xs, ps, b, ys, gs, rfl, Same.sq s7' ha, hea.imp fun _ _ r => PartAt.kt (Same.kt s7') r, Same.sq s7' hb, heb.imp fun _ _ r => GateAt.kt (Same.kt s7') r, ok.top, hT.ext s7', fun H8 sm8 => ⟨true, rfl, iteF ?_⟩⟩⟩
    have sm8' : Sm T0 H H8 := (Same.sm s7').trans sm8
    have hx8 := sm8'.lst hx (by intro _ z; cases z)
    -- the fields
    refine ⟨.ref a, rfl, a, xs, rfl, sm8'.sq ha, fun pa H9 s9 hpa => ?_⟩
    have hx9 := s9 _ _ hx8
    refine ⟨.ref x, rfl, x, C, dx, _, rfl, hx9, L.cl, L.nP, by show 0 < 1000; decide, ?_⟩
    have x9 : SmX x T0 H9 _ := SmX.at (o' := .ins C dx (putF "_parts" (.ref pa) [])) hx9 (by intro _ z; cases z) (by intro _ z; cases z)
    have y9 := ((sm8'.x (x := x)).trans (Same.sm s9).x).trans x9
    refine ⟨.ref b, rfl, b, ys, rfl, y9.sq hx hb, fun ga H10 s10 hga => ?_⟩
    have hx10 := s10 _ _ (upd_same (H := H9) (a := x) (o := .ins C dx (putF "_parts" (.ref pa) [])))
    refine ⟨.ref x, rfl, x, C, dx, _, rfl, hx10, L.cl, L.nG, by show 1 < 1000; decide, ?_⟩
    have x10 : SmX x T0 H10 _ := SmX.at (o' := .ins C dx (putF "_gates" (.ref ga) (putF "_parts" (.ref pa) []))) hx10 (by intro _ z; cases z) (by intro _ z; cases z)
    have y10 := (y9.trans (Same.sm s10).x).trans x10
    refine ⟨.ref c, rfl, c, zs, rfl, y10.sq hx hc, fun ca H11 s11 hca => ?_⟩
    have hx11 := s11 _ _ (upd_same (H := H10) (a := x) (o := .ins C dx (putF "_gates" (.ref ga) (putF "_parts" (.ref pa) []))))
    refine ⟨.ref x, rfl, x, C, dx, _, rfl, hx11, L.cl, L.nC, by rw [show putF "_parts" (.ref pa) [] = [(("_parts" : Str), V.ref pa)] from rfl, putF_ne f_pg]; show 2 < 1000; decide, ?_⟩
    have x11 : SmX x T0 H11 _ := SmX.at (o' := .ins C dx (putF "_causes" (.ref ca) (putF "_gates" (.ref ga) (putF "_parts" (.ref pa) [])))) hx11 (by intro _ z; cases z) (by intro _ z; cases z)
    have y11 := (y10.trans (Same.sm s11).x).trans x11
    have hx12 := upd_same (H := H11) (a := x) (o := .ins C dx (putF "_causes" (.ref ca) (putF "_gates" (.ref ga) (putF "_parts" (.ref pa) []))))
    refine ⟨.str tp, rfl, .ref x, rfl, x, C, dx, _, rfl, hx12, L.cl, L.nT, by rw [show putF "_parts" (.ref pa) [] = [(("_parts" : Str), V.ref pa)] from rfl, putF_ne f_pg, show putF "_gates" (V.ref ga) [] = [(("_gates" : Str), V.ref ga)] from rfl, putF_ne f_pc, putF_ne f_gc]; show 3 < 1000; decide, ?_⟩
    have x12 : SmX x T0 _ _ := SmX.at (o' := .ins C dx (putF "_top" (.str tp) (putF "_causes" (.ref ca) (putF "_gates" (.ref ga) (putF "_parts" (.ref pa) []))))) hx12 (by intro _ z; cases z) (by intro _ z; cases z)
    have t12 := x12.sqt (K := K) (xs := zs) hx12 (x11.sqt hx11 hca)
    have t11 := x12.sqt (K := K) (xs := ys) hx12 (x11.sqt hx11 (Same.sqt s11 (x10.sqt hx10 hga)))
    have t10 := x12.sqt (K := K) (xs := xs) hx12 (x11.sqt hx11 (Same.sqt s11 (x10.sqt hx10 (Same.sqt s10 (x9.sqt hx9 hpa)))))
    exact q _ pa ga ca (y11.trans x12) (by rw [upd_same, plF_eq]) t10 t11 t12
end
end Kf

set_option Elab.async false
set_option linter.all false
set_option maxRecDepth 100000
set_option maxHeartbeats 2000000
namespace Kf
open PySem PySem.Spec PyProof.Rows PySem.W
/-! ## a == b, a != b where a is an instance of a class that says __eq__ alone -/
section
variable {prog : Program} {w : World} {M : Model} {A : Around} {E : Value → Shared → Prop} {s : Shared} {K : Frag} {x C f L : Addr} {ox : Obj} {od : Option Obj} {b tb : Value} {h₀ : Heap} {m : Str → Option Value}
theorem ifBoundB {name : Str} {id : String} {args : List Value} {Q : Option Value → Shared → Prop} (X : K.In s.heap) (I : InstAt s.heap x ox C od) (hs : findIn K (.ref C) name = some (some (.builtin id))) (hb : ∀ self, bindSpecial (.builtin id) self = pure (.builtin id, [self]))
    (h : wpAny M A (call (.builtin id) (.ref x :: args)) (fun v => Q (some v)) E s) : wpAny M A (callSpecialIfBound? (.ref x) name args) Q E s := by
  simp only [callSpecialIfBound?, bindSpecialIfBound?]
  refine wpAny_holding (wpAny_bind (wpAny_bind (wpAny_bind (I.type.here ((looks_findIn X hs).here ?_)))))
  refine wpAny_bind (wpAny_askSetting (wpAny_ite ?_))
  have fin : wpAny M A (call (.builtin id) ([.ref x] ++ args) >>= fun v => pure (some v)) Q E s := wpAny_bind (wpAny_mono h (fun v s' h' => wpAny_pure h') fun _ _ h' => h')
  split
  · exact wpAny_bind ((Looks.of_pure (hb _)).here (wpAny_pure (by exact fin)))
  · exact wpAny_tryCatch (wpAny_bind ((Looks.of_pure (hb _)).here (wpAny_pure (by exact fin))))
open Builtin in
theorem call_ne {Q : Value → Shared → Prop} (hu : A.in1.units < cLine) (X : K.In s.heap) (I : InstAt s.heap x ox C od) (hm : mroIn K C (.type "object") = some true) (hr : findIn K (.ref C) "__eq__" = some (some (.ref f))) (hf : isFn K (.ref f) = true)
    (h : wpAny (model prog w) A.in1 (call (.ref f) [.ref x, b]) (fun v s' => ∃ r, v = .bool r ∧ Q (.bool (!r)) s') E s) : wpAny (model prog w) A (call (.builtin "object.__ne__") [.ref x, b]) Q E s := by
  refine wpAny_call (codeAny_call_builtin PySem.F.cmp_object.ne.plain PySem.F.cmpEntry_ne (check_slot (i := "object.__ne__") (owner := "object") (n := "__ne__") PySem.F.cmpKind_ne PySem.F.cmpSplit_ne (I.type.andThen (looks_mroIn X hm)) (PySem.F.cmpArgs_ne _ _) ?_))
  unfold Builtin.«object.__ne__»
  refine wpAny_bind (m := slotArgs "__ne__" 1 _) (wpAny_pure ?_)
  refine wpAny_bind (m := cRoomFor _ _) (wpAny_cRoomFor hu ?_)
  refine wpAny_bind (m := callSpecialIfBound? (.ref x) (Str.ofString "__eq__") _) (ifBound_K X I hr hf (wpAny_mono h (fun r s' hq => ?_) fun _ _ y => y))
  obtain ⟨b, rfl, hq⟩ := hq
  exact wpAny_bind (m := truthy (.bool b)) (wpAny_truthy_bool (wpAny_pure hq))
theorem cmp_neK {Q : Value → Shared → Prop} (hu : A.units < cLine) (hu1 : A.in1.units < cLine) (F : Fr h₀ L s.heap m) (X₀ : K.In h₀) (I : InstAt s.heap x ox C od) (hb : Looks (model prog w) s.heap (typeOf b) tb) (hn : notFirst K C tb = true)
    (hs : findIn K (.ref C) "__ne__" = some (some (.builtin "object.__ne__"))) (hm : mroIn K C (.type "object") = some true) (he : findIn K (.ref C) "__eq__" = some (some (.ref f))) (hf : isFn K (.ref f) = true)
    (h : wpAny (model prog w) A.in1 (call (.ref f) [.ref x, b]) (fun v s' => ∃ r, v = .bool r ∧ Q (.bool (!r)) s') E s) : wpAny (model prog w) A (richCompare .NotEq (.ref x) b) Q E s := by
  have X := X₀.keeps F.keep
  have one : wpAny (model prog w) A (tryCompare (.ref x) (cmpInfo .NotEq).2.1 b) (fun r s' => ∃ v, r = some v ∧ Q v s') E s := by
    unfold tryCompare
    refine wpAny_bind (ifBoundB X I hs PySem.F.cmp_object.ne.bind (call_ne hu1 X I hm he hf (wpAny_mono h (fun v s' hv => ?_) fun _ _ e => e)))
    obtain ⟨r, rfl, hq⟩ := hv
    exact ⟨r, rfl, wpAny_pure ⟨_, rfl, hq⟩⟩
  unfold richCompare
  simp only [oneThing_ref]
  refine wpAny_holding (wpAny_bind (wpAny_cRoomFor hu ?_))
  refine wpAny_bind (I.type.here (wpAny_bind (hb.here ?_)))
  split
  · rename_i q
    have e : subIn K tb (.ref C) = some false := by
      rcases Bool.or_eq_true_iff.mp hn with e | e
      · rw [beq_iff_eq.mp e] at q; simp at q
      · exact beq_iff_eq.mp e
    refine wpAny_bind ((looks_subIn X e).here ?_)
    simp only [Bool.false_eq_true, if_false]
    refine wpAny_bind (wpAny_mono one (fun r s' z => ?_) fun _ _ e => e)
    obtain ⟨v, rfl, hq⟩ := z
    exact wpAny_pure hq
  · refine wpAny_bind (wpAny_pure ?_)
    simp only [Bool.false_eq_true, if_false]
    refine wpAny_bind (wpAny_mono one (fun r s' z => ?_) fun _ _ e => e)
    obtain ⟨v, rfl, hq⟩ := z
    exact wpAny_pure hq
end
end Kf
namespace Kf
open PySem PySem.Spec PyProof.Rows L2
structure OwnCmp (K : PySem.W.Frag) (C f : Addr) : Prop where
  he : PySem.W.findIn K (.ref C) "__eq__" = some (some (.ref f))
  hf : PySem.W.isFn K (.ref f) = true
  hs : PySem.W.findIn K (.ref C) "__ne__" = some (some (.builtin "object.__ne__"))
  hm : PySem.W.mroIn K C (.type "object") = some true
def rCmpI (K : PySem.W.Frag) (C : Addr) (sp : Sp) (neg : Bool) : R2 := fun x y H Q => ∃ a dx fs t, x = .ref a ∧ H a = some (.ins C dx fs) ∧ TyX K H y t ∧ PySem.W.notFirst K C t = true ∧ sp [x, y] H (fun z H' => ∃ b, z = .bl b ∧ Q (.bl (if neg then !b else b)) H') E0
section
variable {X : Cx} {K : PySem.W.Frag} {C f : Addr} {fd : FuncData} {ps : List Str} {sp : Sp} {k : Nat}
theorem run_in {pins : List (Addr × Obj)} {σ : L2.St} {H : Hp} {s : Shared} {Q : VK} {us : List Value} {vs : List V} {A : Around} (F : FnOk X.prog X.w X.K X.mg X.base CX0 k f fd ps sp) (hr : Room k A) (hb : Binds X.K fd ps []) (hA : A.frames = some X.stack) {EE : Value → Shared → Prop}
    (I : Inv X pins σ H s) (r : Vals vs us) (h : sp vs H Q E0) : wpAny (model X.prog X.w) A (call (.ref f) us) (EP X pins σ Q) EE s := by
  have hl : us.length = ps.length := by rw [← r.length]; exact F.len _ _ _ _ h
  have e0 : Env0 X.prog X.w X.K X.mg X.base A X.stack s H := by
    have e := I.env0
    exact ⟨hA, e.mod, e.bs, e.bsz, e.funs, e.frf, e.hok, e.bare⟩
  have hb := hb s us I.kIn (by simpa using hl)
  rw [List.append_nil] at hb
  refine wpAny_call (codeAny_mono (F.run A X.stack s H ⟨us, []⟩ us vs Q E0 hr e0 hb r h) fun r s' hq => ?_)
  cases r with
  | error e => exact (show False from hq).elim
  | ok fl =>
    cases fl with
    | ret u => exact I.after hq
    | next => exact False.elim hq
    | brk => exact False.elim hq
    | cont => exact False.elim hq
theorem op_eqI (hK : X.K = K) (O : OwnCmp K C f) (F : FnOk X.prog X.w X.K X.mg X.base CX0 k f fd ps sp) (hb : Binds X.K fd ps []) (hr : Room k X.A) : OpR X (compareOp .Eq) (rCmpI K C sp false) := by
  subst hK
  intro pins s σ H x y v u Q I rx ry h
  obtain ⟨a, dx, fs, t, rfl, ha, ty, hn, q⟩ := h
  cases (show v = Value.ref a from rx)
  obtain ⟨mA, J, _⟩ := ins_get I.hok ha
  obtain ⟨od, J, _⟩ := J.look
  obtain ⟨m, hF⟩ := I.fr
  obtain ⟨P, Z, p, _⟩ := kit_of I ry ty
  show wpAny _ _ (richCompare .Eq (.ref a) u) _ _ s
  refine PySem.W.cmp_K (op := .Eq) (tb := t) hr.units0 hF I.ok.mod.kin J (Z.ty _ _ I.kIn p) hn O.he O.hf ?_
  refine wpAny_mono (run_in (us := [.ref a, u]) (vs := [.ref a, y]) F hr hb I.ok.frames I (.cons rfl (.cons ry .nil)) q) (fun w' s' z => ?_) fun _ _ x => x
  obtain ⟨z', H', I', rz, b, ez, qz⟩ := z
  subst ez
  cases (show w' = Value.bool b from rz)
  exact ⟨.bl b, H', I', rfl, qz⟩
theorem op_neI (hK : X.K = K) (O : OwnCmp K C f) (F : FnOk X.prog X.w X.K X.mg X.base CX0 k f fd ps sp) (hb : Binds X.K fd ps []) (hr : Room (k + 2) X.A) : OpR X (compareOp .NotEq) (rCmpI K C sp true) := by
  subst hK
  intro pins s σ H x y v u Q I rx ry h
  obtain ⟨a, dx, fs, t, rfl, ha, ty, hn, q⟩ := h
  cases (show v = Value.ref a from rx)
  obtain ⟨mA, J, _⟩ := ins_get I.hok ha
  obtain ⟨od, J, _⟩ := J.look
  obtain ⟨m, hF⟩ := I.fr
  obtain ⟨P, Z, p, _⟩ := kit_of I ry ty
  show wpAny _ _ (richCompare .NotEq (.ref a) u) _ _ s
  have hr1 : Room (k + 1) X.A.in1 := Room.in1 hr
  refine cmp_neK (tb := t) hr.units0 hr1.units0 hF I.ok.mod.kin J (Z.ty _ _ I.kIn p) hn O.hs O.hm O.he O.hf ?_
  refine wpAny_mono (run_in (us := [.ref a, u]) (vs := [.ref a, y]) F (hr1.mono (Nat.le_succ _)) hb I.ok.frames I (.cons rfl (.cons ry .nil)) q) (fun w' s' z => ?_) fun _ _ x => x
  obtain ⟨z', H', I', rz, b, ez, qz⟩ := z
  subst ez
  cases (show w' = Value.bool b from rz)
  exact ⟨b, rfl, .bl (!b), H', I', rfl, qz⟩
end
end Kf

set_option Elab.async false
set_option linter.all false
set_option maxRecDepth 100000
set_option maxHeartbeats 2000000
namespace Kf
open PySem PySem.Spec PyProof.Rows L2 LamX NdefX
/-! ## plants as data -/
def strsD (l : List Str) : PyData := .tuple (l.map PyData.str)
def partD (p : Str × Str) : PyData := .tuple [.str p.1, .str p.2]
def causeD (c : Str × List Str) : PyData := .tuple [.str c.1, strsD c.2]
def gateD : G → PyData
  | .all n ins => .tuple [.str n, .str "all", strsD ins]
  | .any n ins => .tuple [.str n, .str "any", strsD ins]
  | .least n m ins => .tuple [.str n, .str "least", .int m, strsD ins]
  | .before n x y => .tuple [.str n, .str "before", .str x, .str y]
  | .spare n ps => .tuple [.str n, .str "spare", strsD ps]
def partsD (ps : List (Str × Str)) : PyData := .tuple (ps.map partD)
def gatesD (gs : List G) : PyData := .tuple (gs.map gateD)
def causesD (cs : List (Str × List Str)) : PyData := .tuple (cs.map causeD)
section
variable {K : PySem.W.Frag} {H : Hp}
theorem dpAll_strs : ∀ l : List Str, DpAll K H (sV l) (l.map PyData.str)
  | [] => .nil
  | x :: r => .cons (.str x) (dpAll_strs r)
theorem dp_strs {a : Addr} {l : List Str} (h : SqT K H a (sV l)) : Dp K H (.ref a) (strsD l) := .tup h (dpAll_strs l)
theorem PartAt.dp {v : V} {p : Str × Str} (h : PartAt K H v p) : Dp K H v (partD p) := by
  obtain ⟨a, rfl, h⟩ := h
  exact .tup h (.cons (.str _) (.cons (.str _) .nil))
theorem CauseAt.dp {v : V} {c : Str × List Str} (h : CauseAt K H v c) : Dp K H v (causeD c) := by
  obtain ⟨a, b, rfl, h, h2⟩ := h
  exact .tup h (.cons (.str _) (.cons (dp_strs h2) .nil))
theorem GateAt.dp {v : V} {g : G} (h : GateAt K H v g) : Dp K H v (gateD g) := by
  cases g with
  | all n ins =>
    obtain ⟨a, b, rfl, h, h2⟩ := h
    exact .tup h (.cons (.str _) (.cons (.str _) (.cons (dp_strs h2) .nil)))
  | any n ins =>
    obtain ⟨a, b, rfl, h, h2⟩ := h
    exact .tup h (.cons (.str _) (.cons (.str _) (.cons (dp_strs h2) .nil)))
  | least n m ins =>
    obtain ⟨a, b, rfl, h, h2⟩ := h
    exact .tup h (.cons (.str _) (.cons (.str _) (.cons (.int _) (.cons (dp_strs h2) .nil))))
  | before n x y =>
    obtain ⟨a, rfl, h⟩ := h
    exact .tup h (.cons (.str _) (.cons (.str _) (.cons (.str _) (.cons (.str _) .nil))))
  | spare n ps =>
    obtain ⟨a, b, rfl, h, h2⟩ := h
    exact .tup h (.cons (.str _) (.cons (.str _) (.cons (dp_strs h2) .nil)))
theorem each_dp {α : Type} {R : V → α → Prop} {D : α → PyData} (hR : ∀ v p, R v p → Dp K H v (D p)) : ∀ {xs : List V} {l : List α}, Each R xs l → DpAll K H xs (l.map D)
  | [], [], _ => .nil
  | [], p :: r, h => by cases h.1
  | x :: xs, [], h => by cases h.1
  | x :: xs, p :: r, h => by
    refine .cons ?_ (each_dp hR ⟨Nat.succ.inj h.1, fun i y hy => ?_⟩)
    · obtain ⟨q, hq, rq⟩ := h.2 0 x rfl
      cases hq
      exact hR _ _ rq
    · exact h.2 (i + 1) y hy
theorem dp_parts {a : Addr} {xs : List V} {ps : List (Str × Str)} (h : SqT K H a xs) (e : Each (PartAt K H) xs ps) : Dp K H (.ref a) (partsD ps) := .tup h (each_dp (fun _ _ r => PartAt.dp r) e)
theorem dp_gates {a : Addr} {xs : List V} {gs : List G} (h : SqT K H a xs) (e : Each (GateAt K H) xs gs) : Dp K H (.ref a) (gatesD gs) := .tup h (each_dp (fun _ _ r => GateAt.dp r) e)
theorem dp_causes {a : Addr} {xs : List V} {cs : List (Str × List Str)} (h : SqT K H a xs) (e : Each (CauseAt K H) xs cs) : Dp K H (.ref a) (causesD cs) := .tup h (each_dp (fun _ _ r => CauseAt.dp r) e)
end
/-! ### their shape -/
theorem canAll_map {α : Type} {D : α → PyData} : ∀ {l : List α}, (∀ x ∈ l, (D x).canLay0 = true) → PyData.canLayAll0 (l.map D) = true
  | [], _ => by simp [PyData.canLayAll0]
  | x :: r, h => by
    simp only [List.map_cons, PyData.canLayAll0, Bool.and_eq_true]
    exact ⟨h x (List.mem_cons_self ..), canAll_map fun y hy => h y (List.mem_cons_of_mem _ hy)⟩
theorem depthAll_map {α : Type} {D : α → PyData} {n : Nat} : ∀ {l : List α}, (∀ x ∈ l, (D x).depth ≤ n) → PyData.depthAll (l.map D) ≤ n
  | [], _ => by simp [PyData.depthAll]
  | x :: r, h => by
    simp only [List.map_cons, PyData.depthAll]
    have h1 := h x (List.mem_cons_self ..)
    have h2 := depthAll_map (D := D) (n := n) (l := r) fun y hy => h y (List.mem_cons_of_mem _ hy)
    omega
abbrev StrOk (x : Str) : Prop := PyData.strOk x = true
theorem NameOk.str {z : Str} (h : NameOk z) : StrOk z := by
  show z.cps.all (· < 0x110000) = true
  rw [Array.all_eq_true_iff_forall_mem]
  intro c hc
  have := h.low c (Array.mem_toList_iff.mpr hc)
  exact decide_eq_true (by omega)
structure ShOk (n : Nat) (d : PyData) : Prop where
  can : d.canLay0 = true
  dep : d.depth ≤ n
theorem ShOk.shaped {n : Nat} {d : PyData} (h : ShOk n d) (hn : n ≤ 64) : SeqAt.shaped d = true := by
  show (d.canLay0 && decide (d.depth ≤ 64)) = true
  rw [h.can, decide_eq_true (Nat.le_trans h.dep hn)]
  rfl
theorem sh_str {z : Str} (h : StrOk z) : ShOk 0 (.str z) := ⟨h, by simp [PyData.depth]⟩
theorem sh_int (i : Int) : ShOk 0 (.int i) := ⟨by simp [PyData.canLay0], by simp [PyData.depth]⟩
theorem ShOk.up {n m : Nat} {d : PyData} (h : ShOk n d) (hm : n ≤ m) : ShOk m d := ⟨h.can, Nat.le_trans h.dep hm⟩
theorem sh_map {α : Type} {D : α → PyData} {n : Nat} {l : List α} (h : ∀ x ∈ l, ShOk n (D x)) : ShOk (n + 1) (.tuple (l.map D)) :=
  ⟨by simp only [PyData.canLay0]; exact canAll_map fun x hx => (h x hx).can, by simp only [PyData.depth]; have := depthAll_map (D := D) (n := n) fun x hx => (h x hx).dep; omega⟩
theorem sh_tup {n : Nat} {ds : List PyData} (h : ∀ d ∈ ds, ShOk n d) : ShOk (n + 1) (.tuple ds) := by
  have e : ds = ds.map id := by simp
  rw [e]
  exact sh_map h
theorem sh_strs {l : List Str} (h : ∀ x ∈ l, StrOk x) : ShOk 1 (strsD l) := sh_map fun x hx => sh_str (h x hx)
theorem w_all : StrOk "all" := by decide +kernel
theorem w_any : StrOk "any" := by decide +kernel
theorem w_least : StrOk "least" := by decide +kernel
theorem w_before : StrOk "before" := by decide +kernel
theorem w_spare : StrOk "spare" := by decide +kernel
theorem w_hot : StrOk "hot" := by decide +kernel
theorem w_cold : StrOk "cold" := by decide +kernel
theorem PartOk.sh {p : Str × Str} (h : PartOk p) : ShOk 1 (partD p) := sh_tup fun d hd => by
  rcases List.mem_cons.mp hd with e | hd
  · rw [e]; exact sh_str h.name.str
  · rw [List.mem_singleton.mp hd]
    refine sh_str ?_
    rcases List.mem_cons.mp h.kind with e | hk
    · rw [e]; exact w_hot
    · rw [List.mem_singleton.mp hk]; exact w_cold
theorem PartsOk.sh {ps : List (Str × Str)} (h : PartsOk ps) : ShOk 2 (partsD ps) := sh_map fun p hp => (h.each p hp).sh
theorem PartsOk.names {ps : List (Str × Str)} (h : PartsOk ps) : ∀ x ∈ ps.map (·.1), StrOk x := fun x hx => by
  obtain ⟨p, hp, rfl⟩ := List.mem_map.mp hx
  exact (h.each p hp).name.str
theorem sh4 {n : Nat} {a b c d : PyData} (h1 : ShOk n a) (h2 : ShOk n b) (h3 : ShOk n c) (h4 : ShOk n d) : ShOk (n + 1) (.tuple [a, b, c, d]) := sh_tup fun x hx => by
  simp only [List.mem_cons, List.not_mem_nil, or_false] at hx
  rcases hx with rfl | rfl | rfl | rfl <;> assumption
theorem sh3 {n : Nat} {a b c : PyData} (h1 : ShOk n a) (h2 : ShOk n b) (h3 : ShOk n c) : ShOk (n + 1) (.tuple [a, b, c]) := sh_tup fun x hx => by
  simp only [List.mem_cons, List.not_mem_nil, or_false] at hx
  rcases hx with rfl | rfl | rfl <;> assumption
theorem sh2 {n : Nat} {a b : PyData} (h1 : ShOk n a) (h2 : ShOk n b) : ShOk (n + 1) (.tuple [a, b]) := sh_tup fun x hx => by
  simp only [List.mem_cons, List.not_mem_nil, or_false] at hx
  rcases hx with rfl | rfl <;> assumption
theorem ChoiceOk.sh {l names : List Str} (h : ChoiceOk l names) (hn : ∀ x ∈ names, StrOk x) : ShOk 1 (strsD l) := sh_strs fun x hx => hn x (h.sub x hx)
theorem GateOk.sh {parts names : List Str} {g : G} (h : GateOk parts names g) (hp : ∀ x ∈ parts, StrOk x) (hn : ∀ x ∈ names, StrOk x) : ShOk 2 (gateD g) := by
  have nm := (sh_str h.name.str).up (Nat.zero_le 1)
  have ins := h.ins
  cases g with
  | all n l => exact sh3 nm ((sh_str w_all).up (Nat.zero_le 1)) (ChoiceOk.sh ins hn)
  | any n l => exact sh3 nm ((sh_str w_any).up (Nat.zero_le 1)) (ChoiceOk.sh ins hn)
  | least n m l => exact sh4 nm ((sh_str w_least).up (Nat.zero_le 1)) ((sh_int m).up (Nat.zero_le 1)) (ChoiceOk.sh ins.1 hn)
  | before n x y => exact (sh4 nm ((sh_str w_before).up (Nat.zero_le 1)) ((sh_str (hn x (ins.sub x (by simp)))).up (Nat.zero_le 1)) ((sh_str (hn y (ins.sub y (by simp)))).up (Nat.zero_le 1)))
  | spare n l => exact sh3 nm ((sh_str w_spare).up (Nat.zero_le 1)) (ChoiceOk.sh ins hp)
theorem GatesOk.names {parts : List Str} {gs : List G} (h : GatesOk parts gs) : ∀ x ∈ gs.map G.name, StrOk x := fun x hx => by
  obtain ⟨g, hg, rfl⟩ := List.mem_map.mp hx
  obtain ⟨i, hi⟩ := List.mem_iff_getElem?.mp hg
  exact (h.each i g hi).name.str
theorem GatesOk.sh {parts : List Str} {gs : List G} (h : GatesOk parts gs) (hp : ∀ x ∈ parts, StrOk x) : ShOk 3 (gatesD gs) := sh_map fun g hg => by
  obtain ⟨i, hi⟩ := List.mem_iff_getElem?.mp hg
  refine (h.each i g hi).sh hp fun x hx => ?_
  rcases List.mem_append.mp hx with hx | hx
  · exact hp x hx
  · refine h.names x ?_
    obtain ⟨g', hg', rfl⟩ := List.mem_map.mp hx
    exact List.mem_map.mpr ⟨g', List.mem_of_mem_take hg', rfl⟩
theorem CausesOk.sh {parts names : List Str} {cs : List (Str × List Str)} (h : CausesOk parts names cs) (hp : ∀ x ∈ parts, StrOk x) (hn : ∀ x ∈ names, StrOk x) : ShOk 3 (causesD cs) := sh_map fun c hc => sh2 ((sh_str (hn _ (h.each c hc).trig)).up (Nat.zero_le 1)) ((h.each c hc).ch.sh hp)
end Kf

set_option Elab.async false
set_option linter.all false
set_option maxRecDepth 100000
set_option maxHeartbeats 2000000
namespace Kf
open PySem PySem.Spec PyProof.Rows L2 LamX NdefX
theorem lk_ne {a b : Str} {v : V} {r : List (Str × V)} (h : ¬ b = a) : List.lookup a ((b, v) :: r) = List.lookup a r := by
  rw [List.lookup_cons, beq_false_of_ne fun e => h e.symm]
theorem lk_eq {a : Str} {v : V} {r : List (Str × V)} : List.lookup a ((a, v) :: r) = some v := by
  rw [List.lookup_cons, beq_self_eq_true]
section
variable {p g c t : V}
theorem plF_p : (plF p g c t).lookup ("_parts" : Str) = some p := lk_eq
theorem plF_g : (plF p g c t).lookup ("_gates" : Str) = some g := (lk_ne f_pg).trans lk_eq
theorem plF_c : (plF p g c t).lookup ("_causes" : Str) = some c := (lk_ne f_pc).trans ((lk_ne f_gc).trans lk_eq)
theorem plF_t : (plF p g c t).lookup ("_top" : Str) = some t := (lk_ne f_pt).trans ((lk_ne f_gt).trans ((lk_ne f_ct).trans lk_eq))
end
/-- a plant object -/
structure PlObj (K : PySem.W.Frag) (C : Addr) (H : Hp) (a : Addr) (ps : List (Str × Str)) (gs : List G) (cs : List (Str × List Str)) (tp : Str) : Prop where
  ex : ∃ dx pa ga ca xs ys zs, H a = some (.ins C dx (plF (.ref pa) (.ref ga) (.ref ca) (.str tp))) ∧ SqT K H pa xs ∧ Each (PartAt K H) xs ps ∧ SqT K H ga ys ∧ Each (GateAt K H) ys gs ∧ SqT K H ca zs ∧ Each (CauseAt K H) zs cs
theorem PlObj.kt {K : PySem.W.Frag} {C : Addr} {H H' : Hp} {a : Addr} {ps : List (Str × Str)} {gs : List G} {cs : List (Str × List Str)} {tp : Str} (h : PlObj K C H a ps gs cs tp) (k : KT K H H') (hi : ∀ C dx fs, H a = some (.ins C dx fs) → H' a = some (.ins C dx fs)) : PlObj K C H' a ps gs cs tp := by
  obtain ⟨dx, pa, ga, ca, xs, ys, zs, h0, h1, e1, h2, e2, h3, e3⟩ := h.ex
  exact ⟨dx, pa, ga, ca, xs, ys, zs, hi _ _ _ h0, k _ _ h1, e1.imp fun _ _ r => PartAt.kt k r, k _ _ h2, e2.imp fun _ _ r => GateAt.kt k r, k _ _ h3, e3.imp fun _ _ r => CauseAt.kt k r⟩
structure Shapes (ps : List (Str × Str)) (gs : List G) (cs : List (Str × List Str)) (tp : Str) : Prop where
  p : ShOk 2 (partsD ps)
  g : ShOk 3 (gatesD gs)
  c : ShOk 3 (causesD cs)
  t : StrOk tp
theorem PlantOk.shapes {ps : List (Str × Str)} {gs : List G} {cs : List (Str × List Str)} {tp : Str} (h : PlantOk ps gs cs tp) : Shapes ps gs cs tp :=
  ⟨h.parts.sh, h.gates.sh h.parts.names, h.causes.sh h.parts.names (fun x hx => (List.mem_append.mp hx).elim (h.parts.names x) (h.gates.names x)), h.gates.names _ h.top.mem⟩
/-- the class, more of it -/
structure PlK (K : PySem.W.Frag) (C : Addr) : Prop where
  ha : PySem.W.findIn K (.ref C) "__class__" = some (some (.builtin "object.__class__"))
  hn : PySem.W.specialIn K (.builtin "object.__class__") "__get__" = some (some (.builtin "getset_descriptor.__get__"))
  ht : PySem.W.takesIn K (.builtin "object.__class__") = some true
  hm : PySem.W.mroIn K C (.type "object") = some true
theorem kit_self {K : PySem.W.Frag} {t : Value} : PySem.W.kitOne K t t = some true := by
  unfold PySem.W.kitOne
  rw [if_pos (by simp)]
def eqPl (ps : List (Str × Str)) (gs : List G) (cs : List (Str × List Str)) (tp : Str) (ps' : List (Str × Str)) (gs' : List G) (cs' : List (Str × List Str)) (tp' : Str) : Bool :=
  PyData.eqv (partsD ps) (partsD ps') && (PyData.eqv (gatesD gs) (gatesD gs') && (PyData.eqv (causesD cs) (causesD cs') && PyData.eqv (.str tp) (.str tp')))
section
variable {P : Program} {w : World} {K : PySem.W.Frag} {mg : Str → Option Value} {base : Heap}
def spEqP (K : PySem.W.Frag) (C : Addr) : Sp := fun vs H Q _ => ∃ a y ps gs cs tp, vs = [.ref a, y] ∧ PlObj K C H a ps gs cs tp ∧ Shapes ps gs cs tp ∧
  ((∃ b ps' gs' cs' tp', y = .ref b ∧ PlObj K C H b ps' gs' cs' tp' ∧ Shapes ps' gs' cs' tp' ∧ Q (.bl (eqPl ps gs cs tp ps' gs' cs' tp')) H) ∨ ∃ t, TyX K H y t ∧ PySem.W.kitOne K t (.ref C) = some false ∧ Q (.bl false) H)
theorem ok_eq {f C : Addr} {fd : FuncData} {k : Nat} (F : L2.Fun K "__eq__" "Plant.__eq__" s_Plant___eq__ f fd) (T : Nm mg) (L : PlC K mg C) (Lk : PlK K C) : FnOk P w K mg base CX0 (k + 1) f fd ["self", "other"] (spEqP K C) := by
  refine F.ok sc_Plant___eq__ (fun vs H Q E h => ?_) (fun cdv A outer s H vs Q E hr h => ?_)
  · obtain ⟨a, y, ps, gs, cs, tp, rfl, _⟩ := h
    rfl
  · obtain ⟨a, y, ps, gs, cs, tp, rfl, ho, sh, h⟩ := h
    have hu64 := hr.units
    refine ⟨_, (pss_one (ps_ret (pe_and (pe_callB call_isi (by rfl) T.n_isinstance (by decide +kernel) (pa_cons (pv 1) (pa_cons (pe_glob (v := .ref C) (by rfl) L.mgC rfl) pa_nil))) (pe_and (pe_cmpR (op_eqD hu64) (pe_fld (pv 0) rfl) (pe_fld (pv 1) rfl) (nomark _)) (pe_and (pe_cmpR (op_eqD hu64) (pe_fld (pv 0) rfl) (pe_fld (pv 1) rfl) (nomark _)) (pe_and (pe_cmpR (op_eqD hu64) (pe_fld (pv 0) rfl) (pe_fld (pv 1) rfl) (nomark _)) (pe_one (pe_cmpR (op_eqD hu64) (pe_fld (pv 0) rfl) (pe_fld (pv 1) rfl) (nomark _))))))))), ?_⟩
    rcases h with ⟨b, ps', gs', cs', tp', rfl, ho', sh', q⟩ | ⟨t, ty, kt, q⟩
    · obtain ⟨dx, pa, ga, ca, xs, ys, zs, h0, h1, e1, h2, e2, h3, e3⟩ := ho.ex
      obtain ⟨dx', pa', ga', ca', xs', ys', zs', h0', h1', e1', h2', e2', h3', e3'⟩ := ho'.ex
      refine ⟨.ref b, rfl, _, _, .ref C, .ref C, true, rfl, .own C, .base (.ins h0' L.cl Lk.ha Lk.hn Lk.ht Lk.hm), kit_self, true, rfl, iteT ?_⟩
      refine ⟨.ref a, rfl, a, C, dx, _, _, rfl, h0, L.cl, L.nP, plF_p, .ref b, rfl, b, C, dx', _, _, rfl, h0', L.cl, L.nP, plF_p, partsD ps, partsD ps', dp_parts h1 e1, dp_parts h1' e1', sh.p.shaped (by decide), sh'.p.shaped (by decide), _, rfl, ?_⟩
      cases hp : PyData.eqv (partsD ps) (partsD ps') with
      | false =>
        have e : eqPl ps gs cs tp ps' gs' cs' tp' = false := by unfold eqPl; rw [hp]; rfl
        rw [e] at q
        exact iteF q
      | true =>
        refine iteT ?_
        refine ⟨.ref a, rfl, a, C, dx, _, _, rfl, h0, L.cl, L.nG, plF_g, .ref b, rfl, b, C, dx', _, _, rfl, h0', L.cl, L.nG, plF_g, gatesD gs, gatesD gs', dp_gates h2 e2, dp_gates h2' e2', sh.g.shaped (by decide), sh'.g.shaped (by decide), _, rfl, ?_⟩
        cases hg : PyData.eqv (gatesD gs) (gatesD gs') with
        | false =>
          have e : eqPl ps gs cs tp ps' gs' cs' tp' = false := by unfold eqPl; rw [hp, hg]; rfl
          rw [e] at q
          exact iteF q
        | true =>
          refine iteT ?_
          refine ⟨.ref a, rfl, a, C, dx, _, _, rfl, h0, L.cl, L.nC, plF_c, .ref b, rfl, b, C, dx', _, _, rfl, h0', L.cl, L.nC, plF_c, causesD cs, causesD cs', dp_causes h3 e3, dp_causes h3' e3', sh.c.shaped (by decide), sh'.c.shaped (by decide), _, rfl, ?_⟩
          cases hc : PyData.eqv (causesD cs) (causesD cs') with
          | false =>
            have e : eqPl ps gs cs tp ps' gs' cs' tp' = false := by unfold eqPl; rw [hp, hg, hc]; rfl
            rw [e] at q
            exact iteF q
          | true =>
            refine iteT ?_
            have e : eqPl ps gs cs tp ps' gs' cs' tp' = PyData.eqv (.str tp) (.str tp') := by unfold eqPl; rw [hp, hg, hc]; rfl
            rw [e] at q
            exact ⟨.ref a, rfl, a, C, dx, _, _, rfl, h0, L.cl, L.nT, plF_t, .ref b, rfl, b, C, dx', _, _, rfl, h0', L.cl, L.nT, plF_t, .str tp, .str tp', .str tp, .str tp', (sh_str sh.t).shaped (by decide), (sh_str sh'.t).shaped (by decide), q⟩
    · exact ⟨y, rfl, _, _, t, .ref C, false, rfl, .own C, ty, kt, false, rfl, iteF q⟩
end
end Kf

set_option Elab.async false
set_option linter.all false
set_option maxRecDepth 100000
set_option maxHeartbeats 2000000
namespace Kf
open PySem PySem.Spec PyProof.Rows L2 LamX NdefX
/-! ## the harness -/
theorem erase_perm {α : Type} : ∀ (l : List α) (j : Nat) (h : j < l.length), (l[j] :: l.eraseIdx j).Perm l
  | [], j, h => by simp at h
  | x :: r, 0, h => List.Perm.refl _
  | x :: r, j + 1, h => by
    have h2 : j < r.length := by simpa using h
    have ih := erase_perm r j h2
    show (r[j] :: x :: r.eraseIdx j).Perm (x :: r)
    exact (List.Perm.swap x r[j] _).trans (List.Perm.cons x ih)
theorem Kp.kt {K : PySem.W.Frag} {d L : Addr} {H H' : Hp} {C : Addr} (kp : Kp d L H H') (D : Dr H d L C) : KT K H H' := by
  intro a xs h
  obtain ⟨ls, cs, r, t, m, D⟩ := D
  rcases h with (h | ⟨o, h⟩) | h
  · exact .inl (.inl (kp _ _ h (ne_of h D.hd (by intro z; cases z)) (ne_of h D.hL (by intro z; cases z))))
  · exact .inl (.inr ⟨o, kp _ _ h (ne_of h D.hd (by intro z; cases z)) (ne_of h D.hL (by intro z; cases z))⟩)
  · exact .inr h
/-- an item whose data stays while tuples stay -/
def IteOk (K : PySem.W.Frag) (H : Hp) (v : V) : Prop := ∃ d, (∀ H', KT K H H' → Dp K H' v d) ∧ ShOk 60 d
theorem KT.refl {K : PySem.W.Frag} {H : Hp} : KT K H H := fun _ _ h => h
theorem KT.trans {K : PySem.W.Frag} {H H1 H2 : Hp} (a : KT K H H1) (b : KT K H1 H2) : KT K H H2 := fun x xs h => b x xs (a x xs h)
theorem IteOk.kt {K : PySem.W.Frag} {H H1 : Hp} {v : V} (h : IteOk K H v) (k : KT K H H1) : IteOk K H1 v := by
  obtain ⟨d, h1, h2⟩ := h
  exact ⟨d, fun H' k' => h1 H' (k.trans k'), h2⟩
theorem ite_str {K : PySem.W.Frag} {H : Hp} {z : Str} (h : StrOk z) : IteOk K H (.str z) := ⟨.str z, fun _ _ => .str z, (sh_str h).up (by decide)⟩
theorem dpAll_of {K : PySem.W.Frag} {H : Hp} : ∀ {xs : List V}, (∀ v ∈ xs, IteOk K H v) → ∃ ds, DpAll K H xs ds ∧ (∀ d ∈ ds, ShOk 60 d) ∧ ds.length = xs.length
  | [], _ => ⟨[], .nil, fun d h => (by cases h), rfl⟩
  | x :: r, h => by
    obtain ⟨d, h1, h2⟩ := h x (List.mem_cons_self ..)
    obtain ⟨ds, h3, h4, h5⟩ := dpAll_of fun v hv => h v (List.mem_cons_of_mem _ hv)
    refine ⟨d :: ds, .cons (h1 H KT.refl) h3, fun e he => ?_, by simp [h5]⟩
    rcases List.mem_cons.mp he with e1 | he
    · rw [e1]; exact h2
    · exact h4 e he
theorem shaped_list {ds : List PyData} (h : ∀ d ∈ ds, ShOk 60 d) : SeqAt.shaped (.list ds) = true := by
  have e : ds = ds.map id := by simp
  have h1 : PyData.canLayAll0 ds = true := by rw [e]; exact canAll_map fun x hx => (h x hx).can
  have h2 : PyData.depthAll ds ≤ 60 := by rw [e]; exact depthAll_map fun x hx => (h x hx).dep
  show (PyData.canLay0 (.list ds) && decide (PyData.depth (.list ds) ≤ 64)) = true
  rw [decide_eq_true (by simp only [PyData.depth]; omega)]
  simp only [PyData.canLay0, h1]
  rfl
theorem eqv_nilD : ∀ ds : List PyData, PyData.eqv (.list ds) (.list []) = ds.isEmpty
  | [] => by simp [PyData.eqv, PyData.eqvAll]
  | n :: r => by simp [PyData.eqv, PyData.eqvAll]
theorem Dr.new {H : Hp} {d L C p : Addr} {o : HO} (D : Dr H d L C) (n : H p = none) : Dr (upd H p o) d L C := by
  obtain ⟨ls, cs, r, t, m, D⟩ := D
  exact ⟨ls, cs, r, t, m, D.new n⟩
theorem Dr.same {H H' : Hp} {d L C : Addr} (D : Dr H d L C) (s : Same H H') : Dr H' d L C := by
  obtain ⟨ls, cs, r, t, m, D⟩ := D
  exact ⟨ls, cs, r, t, m, { D with hd := s _ _ D.hd, hL := s _ _ D.hL, hC := s _ _ D.hC }⟩
theorem Dr.lst {H : Hp} {d L C p : Addr} {xs : List V} (D : Dr H d L C) (h : H p = some (.lst xs)) (n1 : p ≠ L) (n2 : p ≠ C) (o : HO) : Dr (upd H p o) d L C := by
  obtain ⟨ls, cs, r, t, m, D⟩ := D
  have n3 : p ≠ d := ne_of h D.hd (by intro z; cases z)
  exact ⟨ls, cs, r, t, m, { D with hd := by rw [upd_ne n3.symm]; exact D.hd, hL := by rw [upd_ne n1.symm]; exact D.hL, hC := by rw [upd_ne n2.symm]; exact D.hC }⟩
theorem Dr.neL {H : Hp} {d L C p : Addr} (D : Dr H d L C) (n : H p = none) : p ≠ L ∧ p ≠ C ∧ p ≠ d := by
  obtain ⟨ls, cs, r, t, m, D⟩ := D
  exact ⟨(ne_of_none D.hL n).symm, (ne_of_none D.hC n).symm, (ne_of_none D.hd n).symm⟩
theorem Same.kp {d L : Addr} {H H' : Hp} (s : Same H H') : Kp d L H H' := fun b o h _ _ => s b o h
/-- a write at a place that was new then -/
theorem Kp.at {d L p : Addr} {H H' : Hp} {o : HO} (k : Kp d L H H') (n : H p = none) : Kp d L H (upd H' p o) := fun b u h n1 n2 => by
  rw [upd_ne (ne_of_none h n)]
  exact k b u h n1 n2
section
variable {P : Program} {w : World} {K : PySem.W.Frag} {mg : Str → Option Value} {base : Heap}
def spMixed (K : PySem.W.Frag) : Sp := fun vs H Q _ => ∃ d L C a xs, vs = [.ref d, .ref a] ∧ Dr H d L C ∧ Sq K H a xs ∧ (∀ v ∈ xs, IteOk K H v) ∧ xs.length ≤ 100 ∧ ∀ H' p ys, Dr H' d L C → Kp d L H H' → H p = none → H' p = some (.lst ys) → ys.Perm xs → p ≠ L → Q (.ref p) H'
theorem ok_mixed {f : Addr} {fd : FuncData} {k : Nat} (F : L2.Fun K "_law_mixed" "_law_mixed" s__law_mixed f fd) (T : Nm mg) (C__law_take : Cal P w K mg base 1 "_law_take" ["draw", "size"] spTake) : FnOk P w K mg base CX0 2 f fd ["draw", "some"] (spMixed K) := by
  refine F.ok sc__law_mixed (fun vs H Q E h => ?_) (fun cdv A outer s H vs Q E hr h => ?_)
  · obtain ⟨d, L, C, a, xs, rfl, _⟩ := h
    rfl
  · obtain ⟨d, L, C, a, xs, rfl, D, h, hi, hl, q⟩ := h
    have hu64 := hr.units
    refine ⟨_, (pss_cons (ps_par (i := 2) (j := 3) (by rfl) sc__law_mixed.nd rfl rfl (by decide) rfl rfl (pa_cons (pe_callTy call_list_of (by rfl) T.n_list (by decide +kernel) (pa_cons (pv 1) pa_nil)) (pa_cons (pe_lst pa_nil) pa_nil)) (by rfl))
 (pss_cons (ps_while PassesOwn.never (pt_cmpR (op_neD hu64) (pv 2) (pe_lst pa_nil) (nomark _)) (pss_one (ps_expr (pe_bm PySem.F.plainAttrs_list PySem.F.slot_list_append PySem.F.type_list_append mt_append (pv 3) (pa_cons (pe_bm PySem.F.plainAttrs_list PySem.F.slot_list_pop PySem.F.type_list_pop mt_popAt (pv 2) (pa_cons (pe_cal C__law_take (by decide) hr (by rfl) (pa_cons (pv 0) (pa_cons (pe_callB (call_lenK (K := K) rfl) (by rfl) T.n_len (by decide +kernel) (pa_cons (pv 2) pa_nil)) pa_nil))) pa_nil)) pa_nil)))))
 (pss_one (ps_ret (pv 3))))), ?_⟩
    refine ⟨.ref a, rfl, a, xs, rfl, h, fun l nl => ?_⟩
    have s1 : Same H (upd H l (.lst xs)) := Same.new nl
    refine ⟨Nat.zero_le _, fun n nn => ?_⟩
    have s2 := s1.trans (Same.new (o := .lst []) nn)
    have nln : l ≠ n := ne_of_none (upd_same (H := H) (a := l)) nn
    have nn0 : H n = none := s1.free nn
    refine ⟨_, _, rfl, ?_⟩
    refine while_by (fun σ H2 => ∃ left found, σ = [some (.ref d), some (.ref a), some (.ref l), some (.ref n)] ∧ Dr H2 d L C ∧ Kp d L H H2 ∧ H2 l = some (.lst left) ∧ H2 n = some (.lst found) ∧ (found ++ left).Perm xs) (fun _ H2 => match H2 l with | some (.lst ys) => ys.length | _ => 0)
      ⟨xs, [], rfl, D.same s2, (Same.kp s2), by rw [upd_ne nln, upd_same], upd_same, List.Perm.refl _⟩ (fun σ H2 p => ?_) ?_
    · obtain ⟨left, found, rfl, D2, kp, hL, hF, pm⟩ := p
      have hlen : found.length + left.length = xs.length := by
        have := pm.length_eq
        simpa using this
      refine ⟨.ref l, rfl, Nat.zero_le _, fun e ne => ?_⟩
      have s3 : Same H2 (upd H2 e (.lst [])) := Same.new ne
      have kt3 : KT K H (upd H2 e (.lst [])) := (kp.kt D).trans (Same.kt s3)
      obtain ⟨ds, hds, hsh, hdl⟩ := dpAll_of (K := K) (H := upd H2 e (.lst [])) (xs := left) fun v hv => (hi v (pm.mem_iff.mp (List.mem_append_right _ hv))).kt kt3
      refine ⟨.list ds, .list [], .lst (.of (s3 _ _ hL)) hds, .lst (.of upd_same) .nil, shaped_list hsh, shaped_list (fun d h => by cases h), ?_⟩
      rw [eqv_nilD]
      refine ⟨_, rfl, ?_⟩
      cases left with
      | nil =>
        have e0 : ds = [] := List.eq_nil_of_length_eq_zero hdl
        subst e0
        refine iteF ?_
        refine ⟨.ref n, rfl, q _ n found (D2.same s3) (kp.trans (Same.kp s3)) nn0 (s3 _ _ hF) (by simpa using pm) (D.neL nn0).1⟩
      | cons x r =>
        have e0 : (!ds.isEmpty) = true := by
          cases ds with
          | nil => simp at hdl
          | cons _ _ => rfl
        rw [e0]
        refine iteT ?_
        have hL3 := s3 _ _ hL
        have hF3 := s3 _ _ hF
        have nlL := D.neL nl
        have hl2 : (x :: r).length ≤ 100 := by omega
        have hl3 : 0 < (x :: r).length := by simp
        have nnL := D.neL nn0
        refine ⟨.ref n, rfl, .inl ⟨rfl, _, .of hF3⟩, .ref l, rfl, .inl ⟨rfl, _, .of hL3⟩, .ref d, rfl, .ref l, rfl, l, _, rfl, .inl (.of hL3), d, L, C, _, rfl, D2.same s3, by omega, by omega, fun H4 i D4 kp4 hi0 hi1 => ?_⟩
        obtain ⟨j, rfl⟩ : ∃ j : Nat, i = (j : Int) := ⟨i.toNat, by omega⟩
        have hj : j < (x :: r).length := by omega
        have hL4 := kp4 _ _ hL3 nlL.2.2 nlL.1
        have hF4 := kp4 _ _ hF3 nnL.2.2 nnL.1
        refine ⟨l, _, (j : Int), j, (x :: r)[j], rfl, rfl, hL4, by omega, by omega, PySem.StrLaws.seqIndex_nonneg (by omega) (by omega), List.getElem?_eq_getElem hj, ?_⟩
        have hF5 : (upd H4 l (.lst ((x :: r).eraseIdx j))) n = some (.lst found) := by rw [upd_ne nln.symm]; exact hF4
        refine ⟨n, _, _, rfl, rfl, hF5, by rw [sizeLine_eq]; simp at hlen; omega, ?_⟩
        refine ⟨⟨(x :: r).eraseIdx j, found ++ [(x :: r)[j]], rfl, (D4.lst hL4 nlL.1 nlL.2.1 _).lst hF5 nnL.1 nnL.2.1 _, (((kp.trans (Same.kp s3)).trans kp4).at nl).at nn0, by rw [upd_ne nln, upd_same], upd_same, ?_⟩, ?_⟩
        · refine List.Perm.trans ?_ pm
          rw [List.append_assoc]
          refine List.Perm.append_left _ ?_
          exact erase_perm _ _ hj
        · show (match (upd (upd H4 l (.lst ((x :: r).eraseIdx j))) n _) l with | some (.lst ys) => ys.length | _ => 0) < (match H2 l with | some (.lst ys) => ys.length | _ => 0)
          rw [upd_ne nln, upd_same, hL]
          show ((x :: r).eraseIdx j).length < (x :: r).length
          rw [List.length_eraseIdx, if_pos hj]
          simp
    · intro σ H2 Q1 Q2 hq h
      obtain ⟨v, hv, h1, h2⟩ := h
      refine ⟨v, hv, h1, fun e ne => ?_⟩
      obtain ⟨d1, d2, a1, a2, a3, a4, k, ek, hk⟩ := h2 e ne
      exact ⟨d1, d2, a1, a2, a3, a4, k, ek, hq _ _ hk⟩
/-! ### one of a list, a tuple, a text -/
def spPick2 (K : PySem.W.Frag) : Sp := fun vs H Q _ => ∃ d L C v, vs = [.ref d, v] ∧ Dr H d L C ∧
  ((∃ a xs, v = .ref a ∧ a ≠ L ∧ Sq K H a xs ∧ 0 < xs.length ∧ xs.length < 1000 ∧ ∀ H' x, Dr H' d L C → Kp d L H H' → x ∈ xs → Q x H') ∨
   (∃ z, v = .str z ∧ 0 < z.length ∧ z.length < 1000 ∧ ∀ H' c, Dr H' d L C → Kp d L H H' → c ∈ z.cps.toList → Q (.str ⟨#[c]⟩) H'))
theorem ok_pick2 {f : Addr} {fd : FuncData} (F : L2.Fun K "_law_pick" "_law_pick" s__law_pick f fd) (T : Nm mg) (C__law_take : Cal P w K mg base 1 "_law_take" ["draw", "size"] spTake) : FnOk P w K mg base CX0 2 f fd ["draw", "some"] (spPick2 K) := by
  refine F.ok sc__law_pick (fun vs H Q E h => ?_) (fun cdv A outer s H vs Q E hr h => ?_)
  · obtain ⟨d, L, C, v, rfl, _⟩ := h
    rfl
  · obtain ⟨d, L, C, v, rfl, D, h⟩ := h
    refine ⟨_, pss_one (ps_ret (pe_ix ix_seq (pv 1) (pe_cal C__law_take (by decide) hr (by rfl) (pa_cons (pv 0) (pa_cons (pe_callB call_len (by rfl) T.n_len PySem.boot_len (pa_cons (pv 1) pa_nil)) pa_nil))) (fun _ _ => rfl))), ?_⟩
    rcases h with ⟨a, xs, rfl, n, hS, h0, h1, q⟩ | ⟨z, rfl, h0, h1, q⟩
    · have hlen : LenV K (.ref a) H xs.length := hS.elim (fun h => .inl ⟨xs, h, rfl⟩) fun h => .inr ⟨xs, h, rfl⟩
      refine ⟨.ref a, rfl, .ref d, rfl, .ref a, rfl, _, xs.length, rfl, hlen, d, L, C, xs.length, rfl, D, by omega, by omega, fun H' k D' kp hk0 hk1 => ?_⟩
      obtain ⟨j, rfl⟩ : ∃ j : Nat, k = (j : Int) := ⟨k.toNat, by omega⟩
      have hj : j < xs.length := by omega
      have q2 := q _ _ D' kp (List.getElem_mem hj)
      rcases hS with hS | hS
      · exact .inl ⟨a, xs, _, xs[j], rfl, rfl, kp.seq D n hS, atI_nat (List.getElem?_eq_getElem hj), q2⟩
      · exact .inr (.inl ⟨a, xs, _, xs[j], rfl, rfl, kp.kt D _ _ hS, atI_nat (List.getElem?_eq_getElem hj), q2⟩)
    · refine ⟨.str z, rfl, .ref d, rfl, .str z, rfl, _, z.length, rfl, ⟨by rw [sizeLine_eq]; omega, rfl⟩, d, L, C, z.length, rfl, D, by omega, by omega, fun H' k D' kp hk0 hk1 => ?_⟩
      obtain ⟨j, rfl⟩ : ∃ j : Nat, k = (j : Int) := ⟨k.toNat, by omega⟩
      have hj : j < z.cps.toList.length := by
        have e : z.cps.toList.length = z.length := by simp [Str.length]
        omega
      exact .inr (.inr ⟨z, _, z.cps.toList[j], rfl, rfl, by rw [sizeLine_eq]; omega, atI_nat (List.getElem?_eq_getElem hj), q _ _ D' kp (List.getElem_mem hj)⟩)
end
end Kf

set_option Elab.async false
set_option linter.all false
set_option maxRecDepth 100000
set_option maxHeartbeats 2000000
namespace Kf
open PySem PySem.Spec PyProof.Rows L2 LamX NdefX TL
/-! ## words -/
def nameB (z : Str) : Bool := decide (1 ≤ z.cps.toList.length) && decide (z.cps.toList.length ≤ 6) && z.cps.toList.all fun c => decide (97 ≤ c) && decide (c ≤ 122)
theorem len_tl (z : Str) : z.cps.toList.length = z.length := by simp [Str.length]
theorem nameOk_of {z : Str} (h : nameB z = true) : NameOk z := by
  unfold nameB at h
  simp only [Bool.and_eq_true, decide_eq_true_eq, List.all_eq_true, len_tl] at h
  exact ⟨h.1.1, h.1.2, fun c hc => h.2 c hc⟩
def menuL : List Str := ["a", "b", "c", "fail", "mend", "all", "least", "spare", "before", "top", "none", "zzzzzz"]
theorem menu_ok : ∀ x ∈ menuL, NameOk x := fun x hx => nameOk_of ((by decide +kernel : ∀ x ∈ menuL, nameB x = true) x hx)
theorem joinL_nil : ∀ ls : List (List Nat), joinL [] ls = ls.flatten
  | [] => rfl
  | [p] => by simp [joinL]
  | p :: q :: r => by
    have ih := joinL_nil (q :: r)
    show p ++ ([] ++ joinL [] (q :: r)) = _
    rw [ih]
    simp
theorem tl_empty : tl ("" : Str) = [] := by decide +kernel
theorem join_letters (cs : List Nat) : tl (Txt.join ("" : Str) (cs.map fun c => (⟨#[c]⟩ : Str))) = cs := by
  rw [join_eq, tl_join, tl_empty, joinL_nil, List.map_map]
  have e : (tl ∘ fun c : Nat => (⟨#[c]⟩ : Str)) = fun c => [c] := by funext c; rfl
  rw [e]
  induction cs with
  | nil => rfl
  | cons c r ih => simp [ih]
theorem nameOk_tl {z : Str} {cs : List Nat} (e : tl z = cs) (h1 : 1 ≤ cs.length) (h2 : cs.length ≤ 6) (h3 : ∀ c ∈ cs, 97 ≤ c ∧ c ≤ 122) : NameOk z :=
  ⟨by rw [← len_tl]; show 1 ≤ (tl z).length; rw [e]; exact h1, by rw [← len_tl]; show (tl z).length ≤ 6; rw [e]; exact h2, fun c hc => h3 c (by rw [← e]; exact hc)⟩
theorem tl_cut5 (z : Str) : tl (cutS z none (some 5)) = (tl z).take 5 := by
  have e1 : HT.sIx z.length 0 none = 0 := rfl
  have e2 : HT.sIx z.length z.length (some 5) = min 5 z.length := HT.sIx_nat z.length z.length 5
  show ((z.cps.toList.drop (HT.sIx z.length 0 none)).take (HT.sIx z.length z.length (some 5) - HT.sIx z.length 0 none)).toArray.toList = _
  rw [e1, e2]
  simp only [List.drop_zero, Nat.sub_zero]
  show z.cps.toList.take (min 5 z.length) = z.cps.toList.take 5
  rw [← len_tl]
  by_cases h : z.cps.toList.length ≤ 5
  · rw [Nat.min_eq_right h, List.take_of_length_le (Nat.le_refl _), List.take_of_length_le h]
  · rw [Nat.min_eq_left (by omega)]
def cand (w : Str) (c : Nat) : Str := cutS w none (some 5) ++ (⟨#[c]⟩ : Str)
theorem tl_cand (w : Str) (c : Nat) : tl (cand w c) = (tl w).take 5 ++ [c] := by
  unfold cand
  rw [tl_append, tl_cut5]
theorem cand_inj {w : Str} {c c' : Nat} (h : cand w c = cand w c') : c = c' := by
  have e := congrArg tl h
  rw [tl_cand, tl_cand] at e
  have := List.append_cancel_left e
  simpa using this
theorem cand_ok {w : Str} {c : Nat} (h : NameOk w) (hc : 97 ≤ c ∧ c ≤ 122) : NameOk (cand w c) := by
  refine nameOk_tl (tl_cand w c) (by simp) (by simp; omega) fun x hx => ?_
  rcases List.mem_append.mp hx with hx | hx
  · exact h.low x (List.mem_of_mem_take hx)
  · rw [List.mem_singleton.mp hx]
    exact hc
def cands (w : Str) (n : Nat) : List Str := (List.range n).map fun i => cand w (97 + i)
theorem cands_nodup (w : Str) (n : Nat) : (cands w n).Nodup := by
  unfold cands
  refine List.Pairwise.map _ (fun a b hab => ?_) List.nodup_range
  intro e
  have := cand_inj e
  exact hab (by omega)
theorem letter_at {i : Nat} (h : i < 26) : (Str.ofString "abcdefghijklmnopqrstuvwxyz").cps[i]? = some (97 + i) := by
  have e : (Str.ofString "abcdefghijklmnopqrstuvwxyz").cps.toList[i]? = some (97 + i) := by
    rw [letters_eq, List.getElem?_range' h]
    simp
  rw [← Array.getElem?_toList]
  exact e
theorem letters_size : (Str.ofString "abcdefghijklmnopqrstuvwxyz").cps.size = 26 := by decide +kernel
theorem pigeon : ∀ {l1 l2 : List Str}, l1.Nodup → (∀ x ∈ l1, x ∈ l2) → l1.length ≤ l2.length
  | [], _, _, _ => Nat.zero_le _
  | x :: r, l2, nd, h => by
    have hx := h x (List.mem_cons_self ..)
    have nd2 := List.nodup_cons.mp nd
    have ih := pigeon (l1 := r) (l2 := l2.erase x) nd2.2 fun y hy => (List.mem_erase_of_ne (fun e : y = x => nd2.1 (by rw [← e]; exact hy))).mpr (h y (List.mem_cons_of_mem _ hy))
    rw [List.length_erase_of_mem hx] at ih
    have hp : 0 < l2.length := List.length_pos_of_mem hx
    rw [List.length_cons]
    omega
def freeW (w : Str) (ws : List Str) : List Str := (w :: cands w 26).filter fun z => !decide (z ∈ ws)
theorem freeW_ne {w : Str} {ws : List Str} (h : ws.length < 26) : freeW w ws ≠ [] := by
  intro e
  have h1 : ∀ x ∈ cands w 26, x ∈ ws := fun x hx => by
    by_cases hm : x ∈ ws
    · exact hm
    · have : x ∈ freeW w ws := List.mem_filter.mpr ⟨List.mem_cons_of_mem _ hx, by simp [hm]⟩
      rw [e] at this
      cases this
  have := pigeon (cands_nodup w 26) h1
  simp [cands] at this
  omega
theorem freeW_ok {w : Str} {ws : List Str} (h : NameOk w) {x : Str} (hx : x ∈ freeW w ws) : NameOk x ∧ ¬ x ∈ ws := by
  obtain ⟨h1, h2⟩ := List.mem_filter.mp hx
  refine ⟨?_, by simpa using h2⟩
  rcases List.mem_cons.mp h1 with e | h1
  · rw [e]; exact h
  · obtain ⟨i, hi, rfl⟩ := List.mem_map.mp h1
    have := List.mem_range.mp hi
    exact cand_ok h (by omega)
/-- a name, no q ahead -/
def NQ (z : Str) : Prop := (tl z).head? ≠ some 113
def WordOk (z : Str) : Prop := NameOk z ∧ NQ z
theorem menu_nq : ∀ x ∈ menuL, NQ x := by
  unfold NQ
  decide +kernel
theorem menu_ok2 : ∀ x ∈ menuL, WordOk x := fun x hx => ⟨menu_ok x hx, menu_nq x hx⟩
theorem nq_letters {z : Str} {cs : List Nat} (e : tl z = cs) (h1 : 1 ≤ cs.length) (h : ∀ c ∈ cs, c ≠ 113) : NQ z := by
  unfold NQ
  rw [e]
  cases cs with
  | nil => simp at h1
  | cons c r => exact fun z => h c (List.mem_cons_self ..) (Option.some.inj z)
theorem cand_nq {w : Str} {c : Nat} (h : WordOk w) : NQ (cand w c) := by
  have h1 := h.1.lo
  have h2 := h.2
  unfold NQ at h2 ⊢
  rw [tl_cand]
  have hl : (tl w).length = w.length := len_tl w
  cases e : tl w with
  | nil => rw [e] at hl; simp at hl; omega
  | cons x r =>
    rw [e] at h2
    exact h2
theorem freeW_ok2 {w : Str} {ws : List Str} (h : WordOk w) {x : Str} (hx : x ∈ freeW w ws) : WordOk x ∧ ¬ x ∈ ws := by
  refine ⟨⟨(freeW_ok h.1 hx).1, ?_⟩, (freeW_ok h.1 hx).2⟩
  obtain ⟨h1, _⟩ := List.mem_filter.mp hx
  rcases List.mem_cons.mp h1 with e | h1
  · rw [e]; exact h.2
  · obtain ⟨i, hi, rfl⟩ := List.mem_map.mp h1
    exact cand_nq h
theorem abcxyz_nq : ∀ c ∈ (Str.ofString "abcxyz").cps.toList, c ≠ 113 := by decide +kernel
section
variable {P : Program} {w : World} {K : PySem.W.Frag} {mg : Str → Option Value} {base : Heap}
def spWords : Sp := fun vs H Q _ => ∃ d L C n, vs = [.ref d, .int (n : Nat)] ∧ Dr H d L C ∧ n ≤ 26 ∧ ∀ H' p ws, Dr H' d L C → Kp d L H H' → H p = none → p ≠ L → H' p = some (.lst (sV ws)) → ws.length = n → ws.Nodup → (∀ x ∈ ws, WordOk x) → Q (.ref p) H'
theorem abcxyz_ok : ∀ c ∈ (Str.ofString "abcxyz").cps.toList, 97 ≤ c ∧ c ≤ 122 := by decide +kernel
theorem gName_of {i : Nat} {v : V} {σ : L2.St} {H : Hp} {Q : L2.St → Hp → Prop} (h : Q (σ.set i (some v)) H) : gName i v σ H Q := h
theorem sV_snoc (l : List Str) (x : Str) : sV l ++ [V.str x] = sV (l ++ [x]) := by simp [sV]
theorem ok_words {f : Addr} {fd : FuncData} (F : L2.Fun K "_law_words" "_law_words" s__law_words f fd) (T : Nm mg) (C__law_take : Cal P w K mg base 1 "_law_take" ["draw", "size"] spTake) (C__law_pick : Cal P w K mg base 2 "_law_pick" ["draw", "some"] (spPick2 K)) : FnOk P w K mg base CX0 3 f fd ["draw", "many"] spWords := by
  refine F.ok sc__law_words (fun vs H Q E h => ?_) (fun cdv A outer s H vs Q E hr h => ?_)
  · obtain ⟨d, L, C, n, rfl, _⟩ := h
    rfl
  · obtain ⟨d, L, C, n, rfl, D, hn, q⟩ := h
    refine ⟨_, (pss_cons (ps_asg (pe_tup (pa_cons (pe_lst (pa_cons pe_str (pa_cons pe_str (pa_cons pe_str (pa_cons pe_str (pa_cons pe_str (pa_cons pe_str (pa_cons pe_str (pa_cons pe_str (pa_cons pe_str (pa_cons pe_str (pa_cons pe_str (pa_cons pe_str pa_nil))))))))))))) (pa_cons (pe_lst pa_nil) pa_nil))) (pg_tupK (K := K) (n := 2) rfl rfl (pgs_cons (pg_name (i := 2) sc__law_words.nd rfl (.inl rfl)) (pgs_cons (pg_name (i := 3) sc__law_words.nd rfl (.inr rfl)) pgs_nil))))
 (pss_cons (ps_for PassesOwn.never rfl (pi_range1 rfl T.n_range (pa_cons (pv 1) pa_nil)) (pg_name (i := 4) sc__law_words.nd rfl (.inl rfl))
 (pss_cons (ps_set (i := 5) sc__law_words.nd rfl (.inr rfl) (pe_cal C__law_pick (by decide) hr (by rfl) (pa_cons (pv 0) (pa_cons (pv 2) pa_nil))))
 (pss_cons (ps_if (pt_cmpR op_eq (pe_cal C__law_take (by decide) hr (by rfl) (pa_cons (pv 0) (pa_cons pe_int pa_nil))) pe_int (nomark _))
 (pss_one (ps_set (i := 5) sc__law_words.nd rfl (.inr rfl) (pe_join pe_str (pe_lc (own := [("j", 7)]) (g := gName 7) (by rfl) sc__law_words.nd (pi_range1 rfl T.n_range (pa_cons (pe_op op_add pe_int (pe_cal C__law_take (by decide) hr (by rfl) (pa_cons (pv 0) (pa_cons pe_int pa_nil)))) pa_nil)) (blkOk_by (own := [("j", 7)]) (N := ["draw", "many", "menu", "found", "k", "word", "some", "j", "sign", "one"]) (sc := defScope s__law_words) (by decide +kernel)) (fun _ _ _ _ _ => pg_name (i := 7) sc__law_words.nd rfl (.inl rfl)) (fun _ _ _ _ _ => pts_nil) (fun _ _ _ _ _ => (pe_cal C__law_pick (by decide) hr (by rfl) (pa_cons (pv 0) (pa_cons pe_str pa_nil))))))))
 pss_nil)
 (pss_cons (ps_set (i := 6) sc__law_words.nd rfl (.inl rfl) (pe_op op_cat (pe_lst (pa_cons (pv 5) pa_nil)) (pe_lc (own := [("sign", 8)]) (g := gName 8) (by rfl) sc__law_words.nd (pi_str pe_str) (blkOk_by (own := [("sign", 8)]) (N := ["draw", "many", "menu", "found", "k", "word", "some", "j", "sign", "one"]) (sc := defScope s__law_words) (by decide +kernel)) (fun _ _ _ _ _ => pg_name (i := 8) sc__law_words.nd rfl (.inl rfl)) (fun _ _ _ _ _ => pts_nil) (fun _ _ _ _ _ => (pe_op op_add_str (pe_slice sl_str (pv 5) po_none (po_some pe_int)) (pv 8))))))
 (pss_one (ps_expr (pe_bm PySem.F.plainAttrs_list PySem.F.slot_list_append PySem.F.type_list_append mt_append (pv 3) (pa_cons (pe_ix ix_list (pe_lc (own := [("one", 9)]) (g := gName 9) (by rfl) sc__law_words.nd (pi_list (pv 6)) (blkOk_by (own := [("one", 9)]) (N := ["draw", "many", "menu", "found", "k", "word", "some", "j", "sign", "one"]) (sc := defScope s__law_words) (by decide +kernel)) (fun _ _ _ _ _ => pg_name (i := 9) sc__law_words.nd rfl (.inl rfl)) (fun _ _ _ _ _ => pts_one (pt_cmpR (op_notInK (K := K) rfl) (pv 9) (pv 3) (by with_unfolding_all rfl))) (fun _ _ _ _ _ => (pv 9))) pe_int (fun _ _ => rfl)) pa_nil))))))))
 (pss_one (ps_ret (pv 3))))), ?_⟩
    refine ⟨by show 12 ≤ sizeLine; decide, fun m nm => ⟨Nat.zero_le _, fun fo nf => ⟨by show 2 ≤ sizeLine; decide, fun t nt => ?_⟩⟩⟩
    have s1 : Same H (upd H m (.lst (sV menuL))) := Same.new nm
    have s2 : Same (upd H m (.lst (sV menuL))) _ := Same.new (o := .lst []) nf
    have s3 : Same (upd (upd H m (.lst (sV menuL))) fo (.lst [])) _ := Same.new (o := .tup [.ref m, .ref fo]) nt
    have s03 := (s1.trans s2).trans s3
    have nf0 : H fo = none := s1.free nf
    have hm3 := s3 _ _ (s2 _ _ (upd_same (H := H) (a := m) (o := .lst (sV menuL))))
    have hf3 := s3 _ _ (upd_same (H := upd H m (.lst (sV menuL))) (a := fo) (o := .lst []))
    have nmf : m ≠ fo := ne_of_none (upd_same (H := H) (a := m)) nf
    have mL := D.neL nm
    have fL := D.neL nf0
    refine ⟨t, _, rfl, .of upd_same, rfl, .ref m, _, rfl, .ref fo, [], rfl, rfl, ?_⟩
    refine ⟨.int n, rfl, n, rfl, by omega, by omega, for_it (walk_range (lo := 0) (n := n)) (fun i σ H2 => ∃ y4 y5 y6 y7 y8 y9 ws, σ = [some (.ref d), some (.int n), some (.ref m), some (.ref fo), y4, y5, y6, y7, y8, y9] ∧ Dr H2 d L C ∧ Kp d L H H2 ∧ H2 m = some (.lst (sV menuL)) ∧ H2 fo = some (.lst (sV ws)) ∧ ws.length = i ∧ ws.Nodup ∧ ∀ x ∈ ws, WordOk x)
      ⟨_, _, _, _, _, _, [], rfl, D.same s03, Same.kp s03, hm3, hf3, rfl, List.nodup_nil, fun x h => (by cases h)⟩ (fun _ _ _ _ _ => trivial) (fun i x σ H2 H3 hi p y => ?_) (fun σ H2 p => ?_)⟩
    · obtain ⟨y4, y5, y6, y7, y8, y9, ws, rfl, D2, kp, hm, hf, hlen, nd, hok⟩ := p
      obtain ⟨rfl, rfl⟩ := y
      -- a word of the menu
      refine ⟨.ref d, rfl, .ref m, rfl, d, L, C, .ref m, rfl, D2, .inl ⟨m, sV menuL, rfl, mL.1, .inl (.of hm), by show 0 < 12; decide, by show 12 < 1000; decide, fun H4 x D4 kp4 hx => ?_⟩⟩
      obtain ⟨w0, hw0, rfl⟩ := List.mem_map.mp hx
      have nw0 := menu_ok2 w0 hw0
      have hm4 := kp4 _ _ hm mL.2.2 mL.1
      have hf4 := kp4 _ _ hf fL.2.2 fL.1
      have k4 := kp.trans kp4
      refine gName_of ?_
      dsimp only
      refine seq_of (fun σ' H5 => ∃ wd y7, σ' = [some (.ref d), some (.int n), some (.ref m), some (.ref fo), some (.int (0 + (i : Int))), some (.str wd), y6, y7, y8, y9] ∧ WordOk wd ∧ Dr H5 d L C ∧ Kp d L H H5 ∧ H5 m = some (.lst (sV menuL)) ∧ H5 fo = some (.lst (sV ws))) (fun σ' H5 p => ?_) (fun fin => ?_)
      · obtain ⟨wd, y7, rfl, nwd, D5, k5, hm5, hf5⟩ := p
        -- some
        refine ⟨.str wd, rfl, by show 1 ≤ sizeLine; decide, fun a na => ?_⟩
        have sa : Same H5 (upd H5 a (.lst (sV [wd]))) := Same.new na
        refine ⟨_, rfl, fun B nB => ?_⟩
        refine lc_it walk_str (LP _ B fun j => sV (cands wd j)) (LP.zero nB rfl) (fun _ _ _ _ => trivial) (fun j x H6 H7 hj p y => ?_) (fun H6 p => ?_)
        · obtain ⟨rfl, c, hc, rfl⟩ := y
          have hj2 : j < 26 := by rw [← letters_size]; exact hj
          have ec : c = 97 + j := by
            rw [letter_at hj2] at hc
            exact (Option.some.inj hc).symm
          subst ec
          have lw := nwd.1.hi
          have l5 : (cutS wd none (some 5)).length ≤ 5 := by rw [← len_tl]; show (tl (cutS wd none (some 5))).length ≤ 5; rw [tl_cut5]; exact List.length_take_le ..
          refine ⟨rfl, .str wd, rfl, 5, rfl, wd, rfl, by rw [sizeLine_eq]; omega, _, rfl, _, _, rfl, rfl, by rw [sizeLine_eq]; show (cutS wd none (some 5)).length + 1 ≤ 16777216; omega, ?_⟩
          refine p.put nB (Same.refl _) ?_ (by rw [sizeLine_eq]; simp [sV, cands]; omega)
          show sV (cands wd (j + 1)) = sV (cands wd j) ++ [V.str (cand wd (97 + j))]
          rw [sV_snoc]
          unfold cands
          rw [List.range_succ, List.map_append]
          rfl
        · have hB : H6 B = some (.lst (sV (cands wd 26))) := by rw [p.at_, letters_size]
          have ha6 := p.sm _ _ (upd_same (H := H5) (a := a) (o := .lst (sV [wd])))
          have sm6 := sa.trans p.sm
          refine ⟨a, B, _, _, rfl, rfl, ha6, hB, by rw [sizeLine_eq]; simp [sV, cands], fun S nS => ?_⟩
          have sS : Same H6 (upd H6 S (.lst (sV [wd] ++ sV (cands wd 26)))) := Same.new nS
          have s7 := sm6.trans sS
          have hf7 := s7 _ _ hf5
          have hS : (upd H6 S (.lst (sV [wd] ++ sV (cands wd 26)))) S = some (.lst (sV (wd :: cands wd 26))) := upd_same
          refine ⟨.ref fo, rfl, .inl ⟨rfl, _, .of hf7⟩, .ref S, rfl, S, rfl, ⟨_, .of hS⟩, fun R nR => ?_⟩
          refine lc_it (walk_list (xs := sV (wd :: cands wd 26))) (LP _ R fun j => sV (((wd :: cands wd 26).take j).filter fun z => !decide (z ∈ ws))) (LP.zero nR (by simp [sV])) (fun _ _ _ p => p.sm.seq (.of hS)) (fun j x H8 H9 hj p8 y => ?_) (fun H8 p8 => ?_)
          · obtain ⟨rfl, hx⟩ := y
            have hj2 : j < (wd :: cands wd 26).length := by simpa [sV] using hj
            have hx2 : (sV (wd :: cands wd 26))[j]? = some (.str (wd :: cands wd 26)[j]) := by
              show ((wd :: cands wd 26).map V.str)[j]? = _
              rw [List.getElem?_map, List.getElem?_eq_getElem hj2]
              rfl
            obtain rfl : x = .str (wd :: cands wd 26)[j] := Option.some.inj (hx.symm.trans hx2)
            have eT : (wd :: cands wd 26).take (j + 1) = (wd :: cands wd 26).take j ++ [(wd :: cands wd 26)[j]] := by rw [List.take_add_one, List.getElem?_eq_getElem hj2]; rfl
            have len27 : (wd :: cands wd 26).length = 27 := by simp [cands]
            refine ⟨rfl, .str (wd :: cands wd 26)[j], rfl, .ref fo, rfl, fo, _, rfl, .inl (.of (p8.sm _ _ hf7)), rfl, flat_sV _, !decide ((wd :: cands wd 26)[j] ∈ ws), by show V.bl (!inV _ (sV ws)) = _; rw [inV_sV], ite2 (fun e => ?_) (fun e => ?_)⟩
            · refine ⟨.str (wd :: cands wd 26)[j], rfl, p8.put nR (Same.refl _) ?_ ?_⟩
              · rw [eT, List.filter_append, filter_one, if_pos e, sV_snoc]
              · have : (((wd :: cands wd 26).take j).filter fun z => !decide (z ∈ ws)).length ≤ ((wd :: cands wd 26).take j).length := List.length_filter_le ..
                rw [sizeLine_eq]
                rw [List.length_take] at this
                simp only [sV, List.length_map]
                omega
            · refine p8.skip (Same.refl _) ?_
              rw [eT, List.filter_append, filter_one, if_neg e]
              simp
          · have hR : H8 R = some (.lst (sV (freeW wd ws))) := by
              rw [p8.at_]
              show some (HO.lst (sV (((wd :: cands wd 26).take (sV (wd :: cands wd 26)).length).filter _))) = _
              rw [List.take_of_length_le (by simp [sV])]
              rfl
            have ne : freeW wd ws ≠ [] := freeW_ne (by omega)
            have hf8 := p8.sm _ _ hf7
            have s8 := s7.trans p8.sm
            cases ef : freeW wd ws with
            | nil => exact absurd ef ne
            | cons z r =>
              rw [ef] at hR
              have hz : z ∈ freeW wd ws := by rw [ef]; exact List.mem_cons_self ..
              obtain ⟨nz, zn⟩ := freeW_ok2 nwd hz
              refine ⟨R, _, 0, .str z, rfl, rfl, .of hR, at0, fo, _, .str z, rfl, rfl, hf8, by rw [sizeLine_eq]; simp [sV]; omega, ?_⟩
              refine ⟨_, _, _, _, _, _, ws ++ [z], rfl, (D5.same s8).lst hf8 fL.1 fL.2.1 _, (k5.trans (Same.kp s8)).at nf0, ?_, by rw [upd_same, sV_snoc], by simp [hlen], nd_snoc nd zn, fun x hx => ?_⟩
              · rw [upd_ne nmf]
                exact s8 _ _ hm5
              · rcases List.mem_append.mp hx with h | h
                · exact hok x h
                · rw [List.mem_singleton.mp h]; exact nz
      · -- or one of letters
        refine ⟨.ref d, rfl, d, L, C, 3, rfl, D4, by decide, by decide, fun H5 k D5 kp5 h0 h1 => ⟨rfl, _, rfl, ite2 (fun e => ?_) (fun e => ?_)⟩⟩
        · have hm5 := kp5 _ _ hm4 mL.2.2 mL.1
          have hf5 := kp5 _ _ hf4 fL.2.2 fL.1
          refine ⟨⟨_, rfl⟩, .ref d, rfl, d, L, C, 6, rfl, D5, by decide, by decide, fun H6 k2 D6 kp6 g0 g1 => ⟨1, k2, rfl, rfl, 1 + k2, rfl, by omega, by omega, fun B nB => ?_⟩⟩
          have hm6 := kp6 _ _ hm5 mL.2.2 mL.1
          have hf6 := kp6 _ _ hf5 fL.2.2 fL.1
          have bL := D6.neL nB
          have kB : Kp d L H6 (upd H6 B (.lst [])) := Kp.new nB
          refine lc_it (walk_range (lo := 0) (n := (1 + k2).toNat)) (fun j H7 => ∃ cs : List Nat, H7 B = some (.lst (sV (cs.map fun c => (⟨#[c]⟩ : Str)))) ∧ cs.length = j ∧ (∀ c ∈ cs, 97 ≤ c ∧ c ≤ 122) ∧ (∀ c ∈ cs, c ≠ 113) ∧ Dr H7 d L C ∧ Kp d L H6 H7)
            ⟨[], upd_same, rfl, fun c h => (by cases h), fun c h => (by cases h), D6.new nB, kB⟩ (fun _ _ _ _ => trivial) (fun j x H7 H8 hj p y => ?_) (fun H7 p => ?_)
          · obtain ⟨cs, hB, hlc, hcs, hcx, D7, kp7⟩ := p
            obtain ⟨rfl, rfl⟩ := y
            refine ⟨rfl, .ref d, rfl, d, L, C, .str "abcxyz", rfl, D7, .inr ⟨"abcxyz", rfl, by decide +kernel, by decide +kernel, fun H9 c D9 kp9 hc => ?_⟩⟩
            have hB9 := kp9 _ _ hB bL.2.2 bL.1
            have hc2 : 97 ≤ c ∧ c ≤ 122 := abcxyz_ok c hc
            refine ⟨_, hB9, by rw [sizeLine_eq]; simp only [sV, List.length_map]; omega, cs ++ [c], ?_, by simp [hlc], fun c' hc' => ?_, fun c' hc' => ?_, D9.lst hB9 bL.1 bL.2.1 _, (kp7.trans kp9).at nB⟩
            · rw [upd_same, List.map_append]
              simp [sV]
            · rcases List.mem_append.mp hc' with h | h
              · exact hcs c' h
              · rw [List.mem_singleton.mp h]; exact hc2
            · rcases List.mem_append.mp hc' with h | h
              · exact hcx c' h
              · rw [List.mem_singleton.mp h]; exact abcxyz_nq c hc
          · obtain ⟨cs, hB, hlc, hcs, hcx, D7, kp7⟩ := p
            have el := join_letters cs
            refine ⟨"", B, cs.map fun c => (⟨#[c]⟩ : Str), rfl, rfl, .inl (.of hB), ?_, ?_⟩
            · have e1 : ((cs.map fun c => (⟨#[c]⟩ : Str)).map (·.length)).sum = cs.length := by
                rw [List.map_map]
                have e2 : ((fun x : Str => x.length) ∘ fun c : Nat => (⟨#[c]⟩ : Str)) = fun _ => 1 := by funext c; rfl
                rw [e2]
                clear hlc hcs hcx hB el
                induction cs with
                | nil => rfl
                | cons c r ih => rw [List.map_cons, List.sum_cons, ih, List.length_cons]; omega
              have e3 : (("" : Str)).length = 0 := by decide +kernel
              rw [e1, e3]
              omega
            · exact fin _ _ ⟨_, _, rfl, ⟨nameOk_tl el (by omega) (by omega) hcs, nq_letters el (by omega) hcx⟩, D7, ((k4.trans kp5).trans kp6).trans kp7, kp7 _ _ hm6 mL.2.2 mL.1, kp7 _ _ hf6 fL.2.2 fL.1⟩
        · exact fin _ _ ⟨w0, _, rfl, nw0, D5, k4.trans kp5, kp5 _ _ hm4 mL.2.2 mL.1, kp5 _ _ hf4 fL.2.2 fL.1⟩
    · obtain ⟨y4, y5, y6, y7, y8, y9, ws, rfl, D2, kp, hm, hf, hlen, nd, hok⟩ := p
      exact ⟨.ref fo, rfl, q H2 fo ws D2 kp nf0 fL.1 hf hlen nd hok⟩
end
end Kf

set_option Elab.async false
set_option linter.all false
set_option maxRecDepth 100000
set_option maxHeartbeats 2000000
namespace Kf
open PySem PySem.Spec PyProof.Rows L2 LamX NdefX
def unS : V → Str
  | .str z => z
  | _ => emptyS
theorem perm_sV {ys : List V} {l : List Str} (h : ys.Perm (sV l)) : ∃ l', ys = sV l' ∧ l'.Perm l := by
  refine ⟨ys.map unS, ?_, ?_⟩
  · have e : ∀ y ∈ ys, V.str (unS y) = y := fun y hy => by
      obtain ⟨z, _, rfl⟩ := List.mem_map.mp (h.mem_iff.mp hy)
      rfl
    unfold sV
    rw [List.map_map]
    exact (List.map_id' ys).symm.trans (List.map_congr_left fun y hy => (e y hy).symm)
  · have := h.map unS
    have e : (sV l).map unS = l := by
      unfold sV
      rw [List.map_map]
      exact List.map_id'' (fun _ => rfl) l
    rw [e] at this
    exact this
theorem Kp.sq {K : PySem.W.Frag} {d L a : Addr} {H H' : Hp} {xs : List V} {C : Addr} (kp : Kp d L H H') (D : Dr H d L C) (n : a ≠ L) (h : Sq K H a xs) : Sq K H' a xs := by
  rcases h with h | h
  · exact .inl (kp.seq D n h)
  · exact .inr (kp.kt D _ _ h)
theorem Kp.lst {d L a : Addr} {H H' : Hp} {xs : List V} {C : Addr} (kp : Kp d L H H') (D : Dr H d L C) (n : a ≠ L) (h : H a = some (.lst xs)) : H' a = some (.lst xs) := by
  obtain ⟨ls, cs, r, t, m, D⟩ := D
  exact kp _ _ h (ne_of h D.hd (by intro z; cases z)) n
section
variable {P : Program} {w : World} {K : PySem.W.Frag} {mg : Str → Option Value} {base : Heap}
def spSome (K : PySem.W.Frag) : Sp := fun vs H Q _ => ∃ d L C a b names, vs = [.ref d, .ref a, .int (b : Nat)] ∧ Dr H d L C ∧ a ≠ L ∧ Sq K H a (sV names) ∧ names.Nodup ∧ 1 ≤ names.length ∧ names.length ≤ 100 ∧ (∀ x ∈ names, StrOk x) ∧ 1 ≤ b ∧ b ≤ 10 ∧
  ∀ H' p l, Dr H' d L C → Kp d L H H' → SqT K H' p (sV l) → ChoiceOk l names → l.length ≤ b → Q (.ref p) H'
theorem ok_some {f : Addr} {fd : FuncData} (F : L2.Fun K "_law_some" "_law_some" s__law_some f fd) (T : Nm mg) (C__law_take : Cal P w K mg base 1 "_law_take" ["draw", "size"] spTake) (C__law_mixed : Cal P w K mg base 2 "_law_mixed" ["draw", "some"] (spMixed K)) : FnOk P w K mg base CX0 3 f fd ["draw", "labels", "bound"] (spSome K) := by
  refine F.ok sc__law_some (fun vs H Q E h => ?_) (fun cdv A outer s H vs Q E hr h => ?_)
  · obtain ⟨d, L, C, a, b, names, rfl, _⟩ := h
    rfl
  · obtain ⟨d, L, C, a, b, names, rfl, D, aL, h, nd, l1, l2, hs, b1, b2, q⟩ := h
    refine ⟨_, (pss_one (ps_ret (pe_callTy (call_tupQ (K := K) rfl) (by rfl) T.n_tuple (by decide +kernel) (pa_cons (pe_slice sl_list (pe_cal C__law_mixed (by decide) hr (by rfl) (pa_cons (pv 0) (pa_cons (pv 1) pa_nil))) po_none (po_some (pe_op op_add pe_int (pe_cal C__law_take (by decide) hr (by rfl) (pa_cons (pv 0) (pa_cons (pe_callB (call_min2 rfl) (by rfl) T.n_min (by decide +kernel) (pa_cons (pv 2) (pa_cons (pe_callB (call_lenK (K := K) rfl) (by rfl) T.n_len (by decide +kernel) (pa_cons (pv 1) pa_nil)) pa_nil))) pa_nil)))))) pa_nil)))), ?_⟩
    have hlen : (sV names).length = names.length := List.length_map ..
    refine ⟨.ref d, rfl, .ref a, rfl, d, L, C, a, sV names, rfl, D, h, fun v hv => ?_, by omega, fun H2 p ys D2 kp2 np hp pm pL => ?_⟩
    · obtain ⟨z, hz, rfl⟩ := List.mem_map.mp hv
      exact ite_str (hs z hz)
    obtain ⟨l', rfl, pm'⟩ := perm_sV pm
    have h2 := kp2.sq D aL h
    have len' : l'.length = names.length := pm'.length_eq
    refine ⟨.ref d, rfl, .int b, rfl, .ref a, rfl, a, _, rfl, h2, b, (sV names).length, rfl, d, L, C, _, rfl, D2, ?_, ?_, fun H3 k D3 kp3 h0 h1 => ?_⟩
    · split <;> omega
    · split <;> omega
    have hk : k < b ∧ k < names.length := by
      rw [hlen] at h1
      split at h1 <;> omega
    obtain ⟨j, rfl⟩ : ∃ j : Nat, k = (j : Int) := ⟨k.toNat, by omega⟩
    have hp3 := kp3.lst D2 pL hp
    refine ⟨1, _, rfl, rfl, 1 + (j : Int), rfl, p, _, rfl, .of hp3, fun c nc => ?_⟩
    have e1 : cutV (sV l') none (some (1 + (j : Int))) = sV (l'.take (1 + j)) := by
      have e : (1 + (j : Int)) = ((1 + j : Nat) : Int) := by omega
      rw [e, cut_to (by simp [sV]; omega)]
      simp [sV, List.map_take]
    rw [e1]
    have s4 : Same H3 (upd H3 c (.lst (sV (l'.take (1 + j))))) := Same.new nc
    refine ⟨c, _, rfl, .inl (.of upd_same), fun t H5 s5 ht => ?_⟩
    have s45 := s4.trans s5
    refine q H5 t (l'.take (1 + j)) (D3.same s45) ((kp2.trans kp3).trans (Same.kp s45)) ht ⟨?_, ?_, ?_, ?_⟩ ?_
    · intro e
      have h0 : (l'.take (1 + j)).length = 0 := by rw [e]; rfl
      rw [List.length_take] at h0
      omega
    · exact (pm'.nodup_iff.mpr nd).sublist (List.take_sublist ..)
    · exact fun x hx => pm'.mem_iff.mp (List.mem_of_mem_take hx)
    · rw [List.length_take]; omega
    · rw [List.length_take]; omega
/-! ### a gate -/
def spGate (K : PySem.W.Frag) : Sp := fun vs H Q _ => ∃ d L C nm a ps b ls, vs = [.ref d, .str nm, .ref a, .ref b] ∧ Dr H d L C ∧ a ≠ L ∧ Sq K H a (sV ps) ∧ ps.Nodup ∧ 1 ≤ ps.length ∧ ps.length ≤ 100 ∧ (∀ x ∈ ps, StrOk x) ∧ b ≠ L ∧ Sq K H b (sV ls) ∧ ls.Nodup ∧ 1 ≤ ls.length ∧ ls.length ≤ 100 ∧ (∀ x ∈ ls, StrOk x) ∧
  ∀ H' v g, Dr H' d L C → Kp d L H H' → GateAt K H' v g → g.name = nm → GateIn ps ls g → Q v H'
theorem ok_gate {f : Addr} {fd : FuncData} (F : L2.Fun K "_law_gate" "_law_gate" s__law_gate f fd) (T : Nm mg) (C__law_take : Cal P w K mg base 1 "_law_take" ["draw", "size"] spTake) (C__law_pick : Cal P w K mg base 2 "_law_pick" ["draw", "some"] (spPick2 K)) (C__law_mixed : Cal P w K mg base 2 "_law_mixed" ["draw", "some"] (spMixed K))
    (C__law_some : Cal P w K mg base 3 "_law_some" ["draw", "labels", "bound"] (spSome K)) : FnOk P w K mg base CX0 4 f fd ["draw", "name", "pieces", "labels"] (spGate K) := by
  refine F.ok sc__law_gate (fun vs H Q E h => ?_) (fun cdv A outer s H vs Q E hr h => ?_)
  · obtain ⟨d, L, C, nm, a, ps, b, ls, rfl, _⟩ := h
    rfl
  · obtain ⟨d, L, C, nm, a, ps, b, ls, rfl, D, aL, ha, nda, a1, a2, sa, bL, hb, ndb, b1, b2, sb, q⟩ := h
    refine ⟨_, (pss_cons (ps_set (i := 4) sc__law_gate.nd rfl (.inl rfl) (pe_cal C__law_pick (by decide) hr (by rfl) (pa_cons (pv 0) (pa_cons (pe_lst (pa_cons pe_str (pa_cons pe_str (pa_cons pe_str (pa_cons pe_str (pa_cons pe_str (pa_cons pe_str (pa_cons pe_str pa_nil)))))))) pa_nil))))
 (pss_cons (ps_if (PW.pt (pw_or (pt_cmpR op_eq (pv 4) pe_str (nomark _)) (pw_or1 (pt_cmpR op_lt (pe_callB (call_lenK (K := K) rfl) (by rfl) T.n_len (by decide +kernel) (pa_cons (pv 3) pa_nil)) pe_int (nomark _)))))
 (pss_one (ps_ret (pe_tup (pa_cons (pv 1) (pa_cons pe_str (pa_cons (pe_cal C__law_some (by decide) hr (by rfl) (pa_cons (pv 0) (pa_cons (pv 2) (pa_cons pe_int pa_nil)))) pa_nil))))))
 pss_nil)
 (pss_cons (ps_if (pt_cmpR op_eq (pv 4) pe_str (nomark _))
 (pss_one (ps_ret (pe_op op_catA (pe_tup (pa_cons (pv 1) (pa_cons pe_str pa_nil))) (pe_callTy (call_tupQ (K := K) rfl) (by rfl) T.n_tuple (by decide +kernel) (pa_cons (pe_slice sl_list (pe_cal C__law_mixed (by decide) hr (by rfl) (pa_cons (pv 0) (pa_cons (pv 3) pa_nil))) po_none (po_some pe_int)) pa_nil)))))
 pss_nil)
 (pss_cons (ps_set (i := 5) sc__law_gate.nd rfl (.inl rfl) (pe_cal C__law_some (by decide) hr (by rfl) (pa_cons (pv 0) (pa_cons (pv 3) (pa_cons pe_int pa_nil)))))
 (pss_cons (ps_if (pt_cmpR op_eq (pv 4) pe_str (nomark _))
 (pss_one (ps_ret (pe_tup (pa_cons (pv 1) (pa_cons pe_str (pa_cons (pe_op op_add pe_int (pe_cal C__law_take (by decide) hr (by rfl) (pa_cons (pv 0) (pa_cons (pe_callB (call_lenK (K := K) rfl) (by rfl) T.n_len (by decide +kernel) (pa_cons (pv 5) pa_nil)) pa_nil)))) (pa_cons (pv 5) pa_nil)))))))
 pss_nil)
 (pss_one (ps_ret (pe_tup (pa_cons (pv 1) (pa_cons (pv 4) (pa_cons (pv 5) pa_nil))))))))))), ?_⟩
    refine ⟨.ref d, rfl, by show 7 ≤ sizeLine; decide, fun o no => ?_⟩
    have s1 : Same H (upd H o (.lst (sV ["all", "any", "least", "before", "before", "spare", "spare"]))) := Same.new no
    have D1 := D.same s1
    refine ⟨d, L, C, .ref o, rfl, D1, .inl ⟨o, sV ["all", "any", "least", "before", "before", "spare", "spare"], rfl, (D.neL no).1, .inl (.of upd_same), by show 0 < 7; decide, by show 7 < 1000; decide, fun H2 x D2 kp2 hx => ?_⟩⟩
    obtain ⟨wd, hw, rfl⟩ := List.mem_map.mp hx
    have k2 := (Same.kp (d := d) (L := L) s1).trans kp2
    have ha2 := k2.sq D aL ha
    have hb2 := k2.sq D bL hb
    have hlen : (sV ls).length = ls.length := List.length_map ..
    -- spare, or too few labels
    refine gName_of ?_
    dsimp only
    refine tOr_pure (decide (wd = "spare")) (decide ((ls.length : Int) < 2)) (fun Q' q' => ?_) (fun _ Q' q' => ?_) ?_
    · refine ⟨.str wd, rfl, rfl, _, rfl, ?_⟩
      show Q' (decide (V.str wd = V.str "spare")) H2
      rw [decStr]
      exact q'
    · refine ⟨.ref b, rfl, b, _, rfl, hb2, _, 2, rfl, rfl, _, rfl, ?_⟩
      rw [hlen]
      exact q'
    refine ite2 (fun e => ?_) (fun e => ?_)
    · -- (name, 'spare', some)
      refine ⟨.str nm, rfl, .ref d, rfl, .ref a, rfl, d, L, C, a, 4, ps, rfl, D2, aL, ha2, nda, a1, a2, sa, by decide, by decide, fun H3 p l D3 kp3 hp ch _ => ⟨by show 3 ≤ sizeLine; decide, fun t nt => ?_⟩⟩
      have s4 : Same H3 (upd H3 t (.tup [.str nm, .str "spare", .ref p])) := Same.new nt
      exact q _ _ (.spare nm l) (D3.same s4) ((k2.trans kp3).trans (Same.kp s4)) ⟨t, p, rfl, .of upd_same, Same.sqt s4 hp⟩ rfl ch
    · have hno : ¬ wd = "spare" ∧ 2 ≤ ls.length := by
        simp only [Bool.or_eq_true, decide_eq_true_eq, not_or] at e
        exact ⟨e.1, by have := e.2; omega⟩
      refine ⟨.str wd, rfl, rfl, _, rfl, ?_⟩
      refine ite2 (fun e => ?_) (fun e => ?_)
      · -- (name, 'before') + two
        refine ⟨.str nm, rfl, by show 2 ≤ sizeLine; decide, fun t nt => ?_⟩
        have s3 : Same H2 (upd H2 t (.tup [.str nm, .str "before"])) := Same.new nt
        refine ⟨.ref d, rfl, .ref b, rfl, d, L, C, b, sV ls, rfl, D2.same s3, Same.sq s3 hb2, fun v hv => ?_, by omega, fun H4 p ys D4 kp4 np hp pm pL => ?_⟩
        · obtain ⟨z, hz, rfl⟩ := List.mem_map.mp hv
          exact ite_str (sb z hz)
        obtain ⟨l', rfl, pm'⟩ := perm_sV pm
        have len' : l'.length = ls.length := pm'.length_eq
        refine ⟨2, rfl, p, _, rfl, .of hp, fun c nc => ?_⟩
        have e1 : cutV (sV l') none (some 2) = sV (l'.take 2) := by
          have e := cut_to (xs := sV l') (i := 2) (by simp [sV]; omega)
          refine Eq.trans e ?_
          simp [sV, List.map_take]
        rw [e1]
        have s5 : Same H4 (upd H4 c (.lst (sV (l'.take 2)))) := Same.new nc
        refine ⟨c, _, rfl, .inl (.of upd_same), fun r H6 s6 hr6 => ?_⟩
        have s56 := s5.trans s6
        have ht6 : SqT K H6 t [.str nm, .str "before"] := Same.sqt s56 (kp4.kt (D2.same s3) _ _ (.of upd_same))
        obtain ⟨x, y, r2, el⟩ : ∃ x y r2, l' = x :: y :: r2 := by
          match l', len' with
          | x :: y :: r2, _ => exact ⟨x, y, r2, rfl⟩
          | [x], h => simp at h; omega
          | [], h => simp at h; omega
        subst el
        have hr7 : SqT K H6 r [.str x, .str y] := hr6
        refine ⟨t, r, _, _, rfl, rfl, ht6, hr7, by show 4 ≤ sizeLine; decide, fun z => by simp at z, fun _ z => by simp at z, fun _ _ u nu => ?_⟩
        have s7 : Same H6 (upd H6 u (.tup ([.str nm, .str "before"] ++ [.str x, .str y]))) := Same.new nu
        have nd2 : (x :: y :: r2).Nodup := pm'.nodup_iff.mpr ndb
        refine q _ _ (.before nm x y) ((D4.same s56).same s7) (((k2.trans (Same.kp s3)).trans kp4).trans (Same.kp (s56.trans s7))) ⟨u, rfl, .of upd_same⟩ rfl ⟨by simp, nd2.sublist (by simp), fun z hz => pm'.mem_iff.mp ?_, by show 2 ≤ 1000; decide⟩
        rcases List.mem_cons.mp hz with e | hz
        · rw [e]; exact List.mem_cons_self ..
        · rw [List.mem_singleton.mp hz]; exact List.mem_cons_of_mem _ (List.mem_cons_self ..)
      · have hnb : ¬ wd = "before" := by
          intro h
          rw [decStr, decide_eq_true h] at e
          exact e rfl
        refine ⟨.ref d, rfl, .ref b, rfl, d, L, C, b, 4, ls, rfl, D2, bL, hb2, ndb, b1, b2, sb, by decide, by decide, fun H3 p l D3 kp3 hp ch hl4 => ?_⟩
        have k3 := k2.trans kp3
        have l1 : 1 ≤ l.length := by
          cases l with
          | nil => exact absurd rfl ch.ne
          | cons _ _ => simp
        refine ⟨.str wd, rfl, rfl, _, rfl, ?_⟩
        refine ite2 (fun e => ?_) (fun e => ?_)
        · refine ⟨.str nm, rfl, .ref d, rfl, .ref p, rfl, p, _, rfl, .inr hp, d, L, C, _, rfl, D3, by simp [sV]; omega, by simp [sV]; omega, fun H4 k D4 kp4 h0 h1 => ⟨1, k, rfl, rfl, .ref p, rfl, by show 4 ≤ sizeLine; decide, fun t nt => ?_⟩⟩
          have s5 : Same H4 (upd H4 t (.tup [.str nm, .str "least", .int (1 + k), .ref p])) := Same.new nt
          have hk : k < (l.length : Int) := by simpa [sV] using h1
          exact q _ _ (.least nm (1 + k) l) (D4.same s5) ((k3.trans kp4).trans (Same.kp s5)) ⟨t, p, rfl, .of upd_same, Same.sqt s5 (kp4.kt D3 _ _ hp)⟩ rfl ⟨ch, by omega, by omega⟩
        · have hnl : ¬ wd = "least" := by
            intro h
            rw [decStr, decide_eq_true h] at e
            exact e rfl
          refine ⟨.str nm, rfl, .str wd, rfl, .ref p, rfl, by show 3 ≤ sizeLine; decide, fun t nt => ?_⟩
          have s5 : Same H3 (upd H3 t (.tup [.str nm, .str wd, .ref p])) := Same.new nt
          have hwd : wd = "all" ∨ wd = "any" := by
            simp only [List.mem_cons, List.not_mem_nil, or_false] at hw
            rcases hw with h | h | h | h | h | h | h
            · exact .inl h
            · exact .inr h
            · exact absurd h hnl
            · exact absurd h hnb
            · exact absurd h hnb
            · exact absurd h hno.1
            · exact absurd h hno.1
          rcases hwd with e | e
          · subst e
            exact q _ _ (.all nm l) (D3.same s5) (k3.trans (Same.kp s5)) ⟨t, p, rfl, .of upd_same, Same.sqt s5 hp⟩ rfl ch
          · subst e
            exact q _ _ (.any nm l) (D3.same s5) (k3.trans (Same.kp s5)) ⟨t, p, rfl, .of upd_same, Same.sqt s5 hp⟩ rfl ch
end
end Kf

set_option Elab.async false
set_option linter.all false
set_option maxRecDepth 100000
set_option maxHeartbeats 2000000
namespace Kf
open PySem PySem.Spec PyProof.Rows L2
section
variable {X : Cx}
/-- d.update({k: y}) -/
def rUpd1 : V → List V → Hp → VK → Prop := fun x xs H Q => ∃ (a b : Addr) (kvs : List (Key × V)) (k : Key) (y : V), x = .ref a ∧ xs = [.ref b] ∧ H a = some (.dK kvs) ∧ H b = some (.dK [(k, y)]) ∧ a ≠ b ∧ kvs.length < sizeLine ∧ Q .non (upd H a (.dK (putK kvs k y)))
theorem mt_update1 : MtM X "dict.update" rUpd1 := by
  intro pins s σ H x xs v us Q I rx rs h
  obtain ⟨a, b, kvs, k, y, rfl, rfl, ha, hb, hab, hl, q⟩ := h
  cases (show v = Value.ref a from rx)
  obtain ⟨u, rfl, ru⟩ := rs.one
  cases (show u = Value.ref b from ru)
  obtain ⟨z, hd, vs, rel, dd⟩ := dk_of I.hok ha
  obtain ⟨z2, hd2, vs2, rel2, dd2⟩ := dk_of I.hok hb
  obtain ⟨k2, u2, e2, ek, ru2⟩ : ∃ k2 u2, vs2 = [(k2, u2)] ∧ k = k2 ∧ RelV y u2 := by
    unfold KV at rel2
    cases rel2 with
    | cons r t =>
      cases t
      exact ⟨_, _, rfl, r.1, r.2⟩
  subst e2 ek
  have hz : vs.length < sizeLine := by rw [← rel.length]; exact hl
  have hl2 : (putK kvs k y).length ≤ sizeLine := by have := length_putK kvs k y; omega
  refine call_meetsIn PySem.F.slot_dict_update dd.typeIs PySem.F.entry_dict_update (PySem.F.args_dict_update_2 _ _) (meets_dict_update (mixKind X.prog X.w) a b hab hd2) ⟨vs, [(k, u2)], dd, dd2, by show vs.length + 1 ≤ sizeLine; omega, fun h' dd' _ hs => ?_⟩
  have he : ∃ q, h'.get? a = some q := let ⟨q, _, _, hq, _⟩ := dd'; ⟨q, hq⟩
  exact ⟨.non, _, d_write (t' := s.toks) I (by rw [ha]; exact True.intro) hs he (dk_new hl2 hd (rel.put k ru2) dd'), rfl, q⟩
end
end Kf

set_option Elab.async false
set_option linter.all false
set_option maxRecDepth 100000
set_option maxHeartbeats 2000000
namespace Kf
open PySem PySem.Spec PyProof.Rows L2 LamX NdefX
/-! ## the law's own account -/
def seat1 (fl : List Str) (us : Uses) : G → Uses
  | .spare n ps => if (getA us n).getD emptyS = emptyS ∨ (getA us n).getD emptyS ∈ fl then setA (setA us n emptyS) n ((freeOf fl (setA us n emptyS) ps).headD emptyS) else us
  | _ => us
def seatU (fl : List Str) (us : Uses) (gs : List G) : Uses := gs.foldl (seat1 fl) us
theorem seat1_le (fl : List Str) (us : Uses) (g : G) : (seat1 fl us g).length ≤ us.length + 1 := by
  cases g with
  | spare n ps =>
    show (if _ then _ else _ : Uses).length ≤ _
    split
    · have h : KeyIn (setA us n emptyS) n := keyIn_set (.inr rfl)
      rw [setA_len h]
      exact setA_le ..
    · omega
  | _ => exact Nat.le_succ _
def wkv (g u s : Addr) (c : Int) : List (Key × V) := [(.inr "gone", .ref g), (.inr "uses", .ref u), (.inr "since", .ref s), (.inr "count", .int c)]
theorem wk_gone {g u s : Addr} {c : Int} : valV (wkv g u s c) (.inr "gone") = some (.ref g) := by with_unfolding_all rfl
theorem wk_uses {g u s : Addr} {c : Int} : valV (wkv g u s c) (.inr "uses") = some (.ref u) := by with_unfolding_all rfl
theorem wk_since {g u s : Addr} {c : Int} : valV (wkv g u s c) (.inr "since") = some (.ref s) := by with_unfolding_all rfl
theorem wk_count {g u s : Addr} {c : Int} : valV (wkv g u s c) (.inr "count") = some (.int c) := by with_unfolding_all rfl
theorem wk_put {g u s s' : Addr} {c : Int} : putK (wkv g u s c) (.inr "since") (.ref s') = wkv g u s' c := by with_unfolding_all rfl
structure WAt (H : Hp) (w g u s : Addr) (c : Int) (fl : List Str) (us : Uses) (sn : List (Str × Int)) : Prop where
  hw : H w = some (.dK (wkv g u s c))
  hg : H g = some (.lst (sV fl))
  hu : H u = some (.dK (dS V.str us))
  hs : H s = some (.dK (dS V.int sn))
  wu : w ≠ u
  su : s ≠ u
section
variable {H : Hp} {w g u s : Addr} {c : Int} {fl : List Str} {us : Uses} {sn : List (Str × Int)}
theorem WAt.gG (W : WAt H w g u s c fl us sn) : DGet H w (.str "gone") (some (.ref g)) := by have q := DGet.k (k := .inr "gone") W.hw; rw [wk_gone] at q; exact q
theorem WAt.gU (W : WAt H w g u s c fl us sn) : DGet H w (.str "uses") (some (.ref u)) := by have q := DGet.k (k := .inr "uses") W.hw; rw [wk_uses] at q; exact q
theorem WAt.gS (W : WAt H w g u s c fl us sn) : DGet H w (.str "since") (some (.ref s)) := by have q := DGet.k (k := .inr "since") W.hw; rw [wk_since] at q; exact q
theorem WAt.gC (W : WAt H w g u s c fl us sn) : DGet H w (.str "count") (some (.int c)) := by have q := DGet.k (k := .inr "count") W.hw; rw [wk_count] at q; exact q
theorem WAt.same {H' : Hp} (W : WAt H w g u s c fl us sn) (sm : Same H H') : WAt H' w g u s c fl us sn := ⟨sm _ _ W.hw, sm _ _ W.hg, sm _ _ W.hu, sm _ _ W.hs, W.wu, W.su⟩
theorem WAt.put {us' : Uses} (W : WAt H w g u s c fl us sn) : WAt (upd H u (.dK (dS V.str us'))) w g u s c fl us' sn :=
  ⟨by rw [upd_ne W.wu]; exact W.hw, by rw [upd_ne (ne_of W.hg W.hu (by intro z; cases z))]; exact W.hg, upd_same, by rw [upd_ne W.su]; exact W.hs, W.wu, W.su⟩
end
/-- all but u stays -/
def Ku (u : Addr) (H H' : Hp) : Prop := ∀ b o, H b = some o → b ≠ u → H' b = some o
theorem Same.ku {u : Addr} {H H' : Hp} (s : Same H H') : Ku u H H' := fun b o h _ => s b o h
theorem Ku.trans {u : Addr} {H H1 H2 : Hp} (a : Ku u H H1) (b : Ku u H1 H2) : Ku u H H2 := fun c o h n => b c o (a c o h n) n
theorem Ku.at {u : Addr} {H : Hp} {o : HO} : Ku u H (upd H u o) := fun b x h n => by rw [upd_ne n]; exact h
theorem Ku.kt {K : PySem.W.Frag} {u : Addr} {H H' : Hp} {kvs : List (Key × V)} (k : Ku u H H') (hu : H u = some (.dK kvs)) : KT K H H' := by
  intro a xs h
  rcases h with (h | ⟨o, h⟩) | h
  · exact .inl (.inl (k _ _ h (ne_of h hu (by intro z; cases z))))
  · exact .inl (.inr ⟨o, k _ _ h (ne_of h hu (by intro z; cases z))⟩)
  · exact .inr h
theorem Ku.sql {K : PySem.W.Frag} {u a : Addr} {H H' : Hp} {xs : List V} {kvs : List (Key × V)} (k : Ku u H H') (hu : H u = some (.dK kvs)) (h : SqL K H a xs) : SqL K H' a xs := by
  rcases h with (h | ⟨o, h⟩) | h
  · exact .inl (.inl (k _ _ h (ne_of h hu (by intro z; cases z))))
  · exact .inl (.inr ⟨o, k _ _ h (ne_of h hu (by intro z; cases z))⟩)
  · exact .inr h
theorem Ku.sq {K : PySem.W.Frag} {u a : Addr} {H H' : Hp} {xs : List V} {kvs : List (Key × V)} (k : Ku u H H') (hu : H u = some (.dK kvs)) (h : Sq K H a xs) : Sq K H' a xs := h.elim (fun h => .inl (k.sql hu h)) fun h => .inr (k.kt hu _ _ h)
theorem Ku.sqb {b : Bool} {K : PySem.W.Frag} {u a : Addr} {H H' : Hp} {xs : List V} {kvs : List (Key × V)} (k : Ku u H H') (hu : H u = some (.dK kvs)) (h : Sqb b K H a xs) : Sqb b K H' a xs := by
  cases b with
  | true => exact k.sql hu h
  | false => exact k.kt hu _ _ h
theorem dp1 {k : Key} {v : V} : mergeK [] [(k, v)] = [(k, v)] := by simp [mergeK, putK]
section
variable {P : Program} {w : World} {K : PySem.W.Frag} {mg : Str → Option Value} {base : Heap}
def spSeat (K : PySem.W.Frag) : Sp := fun vs H Q _ => ∃ m ww kvs ga ys gs g u s c fl us sn, vs = [.ref m, .ref ww] ∧ H m = some (.dK kvs) ∧ valV kvs (.inr "gates") = some (.ref ga) ∧ m ≠ u ∧ Sq K H ga ys ∧ Each (GateAt K H) ys gs ∧ WAt H ww g u s c fl us sn ∧ us.length + gs.length ≤ 500 ∧ fl.length ≤ 500 ∧ (∀ n ps, G.spare n ps ∈ gs → ps.length ≤ 500) ∧
  ∀ H', Ku u H H' → WAt H' ww g u s c fl (seatU fl us gs) sn → Q .non H'
theorem ok_seat {f : Addr} {fd : FuncData} {k : Nat} (F : L2.Fun K "_law_seat" "_law_seat" s__law_seat f fd) (T : Nm mg) : FnOk P w K mg base CX0 (k + 1) f fd ["m", "w"] (spSeat K) := by
  refine F.ok sc__law_seat (fun vs H Q E h => ?_) (fun cdv A outer s H vs Q E hr h => ?_)
  · obtain ⟨m, ww, kvs, ga, ys, gs, g, u, s, c, fl, us, sn, rfl, _⟩ := h
    rfl
  · obtain ⟨m, ww, kvs, ga, ys, gs, g, u, s', c, fl, us, sn, rfl, hm, hga, mu, h, he, W, hl, hfl, hpl, q⟩ := h
    have hu := hu_of hr
    have el := he.1
    refine ⟨_, (pss_one (ps_for PassesOwn.never rfl (pi_sq (pe_dget hu (pv 0) pe_str (fun _ _ => rfl))) (pg_name (i := 2) sc__law_seat.nd rfl (.inl rfl))
 (pss_one (ps_if (PW.pt (pw_and (pt_cmpR op_eq (pe_ix (ix_sqK (K := K) rfl) (pv 2) pe_int (fun _ _ => rfl)) pe_str (nomark _)) (pw_and1 (pt_cmpR (op_inK (K := K) rfl) (pe_dget2 hu (pe_dget hu (pv 1) pe_str (fun _ _ => rfl)) (pe_ix (ix_sqK (K := K) rfl) (pv 2) pe_int (fun _ _ => rfl)) pe_str ⟨rfl, rfl, rfl, rfl⟩) (pe_op op_cat (pe_lst (pa_cons pe_str pa_nil)) (pe_dget hu (pv 1) pe_str (fun _ _ => rfl))) (by with_unfolding_all rfl)))))
 (pss_cons (ps_expr (pe_bm PySem.F.plainAttrs_dict PySem.F.slot_dict_update PySem.F.type_dict_update mt_update1 (pe_dget hu (pv 1) pe_str (fun _ _ => rfl)) (pa_cons (pe_disp (pps_cons (pe_ix (ix_sqK (K := K) rfl) (pv 2) pe_int (fun _ _ => rfl)) pe_str pps_nil) (by rfl) (by rfl) (fun z => by cases z) (by decide)) pa_nil)))
 (pss_cons (ps_setLc (i := 3) (own := [("part", 4)]) (g := gName 4) (by rfl) sc__law_seat.nd rfl rfl (sw_true rfl rfl rfl (by decide +kernel)) (pi_sq (pe_ix (ix_sqK (K := K) rfl) (pv 2) pe_int (fun _ _ => rfl))) (blkOk_by (own := [("part", 4)]) (N := ["m", "w", "gate", "free", "part"]) (sc := defScope s__law_seat) (by decide +kernel)) (fun _ _ _ _ _ => pg_name (i := 4) sc__law_seat.nd rfl (.inl rfl)) (fun _ _ _ _ _ => pts_one (PW.pt (pw_and (pt_cmpR (op_notInK (K := K) rfl) (pv 4) (pe_dget hu (pv 1) pe_str (fun _ _ => rfl)) (by with_unfolding_all rfl)) (pw_and1 (pt_cmpR (op_notInK (K := K) rfl) (pv 4) (pe_listVals rfl (pe_dget hu (pv 1) pe_str (fun _ _ => rfl)) (by rfl) T.n_list (by decide +kernel)) (by with_unfolding_all rfl)))))) (fun _ _ _ _ _ => (pv 4)))
 (pss_one (ps_expr (pe_bm PySem.F.plainAttrs_dict PySem.F.slot_dict_update PySem.F.type_dict_update mt_update1 (pe_dget hu (pv 1) pe_str (fun _ _ => rfl)) (pa_cons (pe_disp (pps_cons (pe_ix (ix_sqK (K := K) rfl) (pv 2) pe_int (fun _ _ => rfl)) (pe_ix ix_list (pe_op op_cat (pv 3) (pe_lst (pa_cons pe_str pa_nil))) pe_int (fun _ _ => rfl)) pps_nil) (by rfl) (by rfl) (fun z => by cases z) (by decide)) pa_nil))))))
 pss_nil)))), ?_⟩
    have gm : DGet H m (.str "gates") (some (.ref ga)) := by
      have q := DGet.k (k := .inr "gates") hm
      rw [hga] at q
      exact q
    obtain ⟨b, hb⟩ := h.b
    refine ⟨.ref m, rfl, m, _, rfl, gm, ga, b, rfl, ⟨_, hb⟩, for_it (walk_sq (xs := ys)) (fun i σ H2 => ∃ y2 y3 y4, σ = [some (.ref m), some (.ref ww), y2, y3, y4] ∧ Ku u H H2 ∧ WAt H2 ww g u s' c fl (seatU fl us (gs.take i)) sn) ⟨_, _, _, rfl, fun _ _ h _ => h, W⟩ (fun i σ H2 hi p => ?_) (fun i x σ H2 H3 hi p y => ?_) (fun σ H2 p => ?_)⟩
    · obtain ⟨_, _, _, _, ku, _⟩ := p
      exact ku.sqb W.hu hb
    · obtain ⟨y2, y3, y4, rfl, ku, W2⟩ := p
      obtain ⟨rfl, hx⟩ := y
      obtain ⟨gt, hg, r⟩ := he.2 i x hx
      have r := GateAt.kt (ku.kt W.hu) r
      have hmem := List.mem_of_getElem? hg
      have suc : seatU fl us (gs.take (i + 1)) = seat1 fl (seatU fl us (gs.take i)) gt := fold_succ (seat1 fl) us hg
      obtain ⟨t, rest, rfl, ht, _⟩ := r.cut
      have hlen : (seatU fl us (gs.take i)).length ≤ 500 := by
        have h1 := fold_le (seat1_le fl) (gs.take i) us
        have h2 : (gs.take i).length ≤ gs.length := by rw [List.length_take]; omega
        show ((gs.take i).foldl (seat1 fl) us).length ≤ 500
        omega
      refine ⟨.ref t, rfl, t, _, 1, .str gt.word, rfl, rfl, .inr ht, at1, rfl, _, rfl, ?_⟩
      have sk : seat1 fl (seatU fl us (gs.take i)) gt = seatU fl us (gs.take i) → WAt H3 ww g u s' c fl (seatU fl us (gs.take (i + 1))) sn := fun e => by rw [suc, e]; exact W2
      cases gt with
      | all n ins => exact iteN (litNe ne_all_spare) ⟨_, _, _, rfl, ku, sk rfl⟩
      | any n ins => exact iteN (litNe ne_any_spare) ⟨_, _, _, rfl, ku, sk rfl⟩
      | least n m ins => exact iteN (litNe ne_least_spare) ⟨_, _, _, rfl, ku, sk rfl⟩
      | before n x y => exact iteN (litNe ne_before_spare) ⟨_, _, _, rfl, ku, sk rfl⟩
      | spare nm ps =>
        refine iteD rfl ?_
        obtain ⟨t', pu, e, ht', hpu⟩ := r
        cases e
        have hpsl := hpl nm ps hmem
        have gget : ∀ H5, Same H3 H5 → DGet H5 u (.str nm) ((getA (seatU fl us (gs.take i)) nm).map V.str) := fun H5 s5 => by
          have q := DGet.k (k := .inr nm) (s5 _ _ W2.hu)
          rw [valV_dS] at q
          exact q
        refine ⟨.ref ww, rfl, ww, .ref u, rfl, W2.gU, u, rfl, .inl ⟨_, .inl W2.hu⟩, .ref t, rfl, t, _, 0, .str nm, rfl, rfl, .inr ht', rfl, _, gget H3 (Same.refl _), ?_⟩
        refine ⟨by show 1 ≤ sizeLine; decide, fun l nl => ?_⟩
        have s4 : Same H3 (upd H3 l (.lst (sV [emptyS]))) := Same.new nl
        refine ⟨.ref ww, rfl, ww, .ref g, rfl, (W2.same s4).gG, l, g, _, _, rfl, rfl, upd_same, s4 _ _ W2.hg, by rw [sizeLine_eq]; simp [sV]; omega, fun p np => ?_⟩
        have s5 := s4.trans (Same.new (o := .lst (sV [emptyS] ++ sV fl)) np)
        have ez : (((getA (seatU fl us (gs.take i)) nm).map V.str).getD (V.str ("" : Str))) = V.str ((getA (seatU fl us (gs.take i)) nm).getD emptyS) := by
          cases getA (seatU fl us (gs.take i)) nm <;> rfl
        rw [ez]
        refine ⟨p, sV (emptyS :: fl), rfl, .inl (.of upd_same), rfl, flat_sV _, decide ((getA (seatU fl us (gs.take i)) nm).getD emptyS ∈ emptyS :: fl), by show V.bl (inV _ (sV _)) = _; rw [inV_sV], ite2 (fun e => ?_) (fun e => ?_)⟩
        · have hyes : (getA (seatU fl us (gs.take i)) nm).getD emptyS = emptyS ∨ (getA (seatU fl us (gs.take i)) nm).getD emptyS ∈ fl := by
            have := of_decide_eq_true e
            rcases List.mem_cons.mp this with h | h
            · exact .inl h
            · exact .inr h
          have W5 := W2.same s5
          have ht5 := Same.sqt s5 ht'
          refine ⟨.ref ww, rfl, ww, .ref u, rfl, W5.gU, .inr (.inr (.inl ⟨rfl, .inl ⟨_, W5.hu⟩⟩)), fun d nd => ?_⟩
          have s6 := s5.trans (Same.new (o := .dK []) nd)
          refine ⟨.ref t, rfl, t, _, 0, .str nm, rfl, rfl, .inr (Same.sqt s6 ht'), rfl, upd_same, [(.inr nm, .str emptyS)], rfl, by show 1 ≤ 15; decide, ?_⟩
          rw [dp1]
          have s7 : Same H3 (upd (upd _ d (.dK [])) d (.dK [(.inr nm, .str emptyS)])) := Same.at s6 (s5.free nd)
          have W7 := W2.same s7
          have nud : u ≠ d := ne_of_none W5.hu nd
          refine ⟨u, d, _, .inr nm, .str emptyS, rfl, rfl, W7.hu, upd_same, nud, small1000 (by rw [dS_len]; omega), ?_⟩
          rw [putK_dS V.str]
          have W8 := W7.put (us' := setA (seatU fl us (gs.take i)) nm emptyS)
          have ku8 : Ku u H (upd _ u (.dK (dS V.str (setA (seatU fl us (gs.take i)) nm emptyS)))) := (ku.trans (Same.ku s7)).trans Ku.at
          have kt8 := (Same.kt s7 (K := K)).trans ((Ku.at (u := u) (o := .dK (dS V.str (setA (seatU fl us (gs.take i)) nm emptyS)))).kt W7.hu)
          have ht8 := kt8 _ _ ht'
          have hpu8 := kt8 _ _ hpu
          obtain ⟨H8, eH8⟩ : ∃ H8, H8 = upd (upd (upd (upd (upd H3 l (.lst (sV [emptyS]))) p (.lst (sV [emptyS] ++ sV fl))) d (.dK [])) d (.dK [(.inr nm, .str emptyS)])) u (.dK (dS V.str (setA (seatU fl us (gs.take i)) nm emptyS))) := ⟨_, rfl⟩
          have hkey : KeyIn (setA (seatU fl us (gs.take i)) nm emptyS) nm := keyIn_set (.inr rfl)
          have l8 : (setA (seatU fl us (gs.take i)) nm emptyS).length ≤ 501 := Nat.le_trans (setA_le ..) (by omega)
          -- free
          refine ⟨.ref t, rfl, t, _, 2, .ref pu, rfl, rfl, .inr ht8, rfl, pu, false, rfl, ⟨_, hpu8⟩, fun D nD => ?_⟩
          refine lc_it (walk_sq (xs := sV ps)) (LP _ D fun j => sV (freeOf fl (setA (seatU fl us (gs.take i)) nm emptyS) (ps.take j))) (LP.zero nD rfl) (fun _ _ _ p => Same.sqb (b := false) p.sm hpu8) (fun j x H9 H10 hj p y => ?_) (fun H9 p => ?_)
          · obtain ⟨rfl, hx⟩ := y
            have hj2 : j < ps.length := by simpa [sV] using hj
            have hx2 : (sV ps)[j]? = some (.str ps[j]) := by simp [sV, hj2]
            obtain rfl : x = .str ps[j] := Option.some.inj (hx.symm.trans hx2)
            have eT : ps.take (j + 1) = ps.take j ++ [ps[j]] := by rw [List.take_add_one, List.getElem?_eq_getElem hj2]; rfl
            have W10 := W8.same p.sm
            have eF : freeOf fl (setA (seatU fl us (gs.take i)) nm emptyS) (ps.take (j + 1)) = freeOf fl (setA (seatU fl us (gs.take i)) nm emptyS) (ps.take j) ++ (if (!decide (ps[j] ∈ fl) && !decide (ps[j] ∈ (setA (seatU fl us (gs.take i)) nm emptyS).map (·.2))) = true then [ps[j]] else []) := by
              unfold freeOf
              rw [eT, List.filter_append, filter_one]
            refine ⟨rfl, ?_⟩
            refine ⟨.str ps[j], rfl, .ref ww, rfl, ww, .ref g, rfl, W10.gG, g, _, rfl, .inl (.of W10.hg), rfl, flat_sV _, !decide (ps[j] ∈ fl), by show V.bl (!inV (.str ps[j]) (sV fl)) = _; rw [inV_sV], ?_⟩
            have fin : ∀ H11 : Hp, Same H10 H11 → (if (!decide (ps[j] ∈ fl) && !decide (ps[j] ∈ (setA (seatU fl us (gs.take i)) nm emptyS).map (·.2))) = true then ∃ acc, H11 D = some (.lst acc) ∧ acc.length < sizeLine ∧ LP _ D (fun j => sV (freeOf fl (setA (seatU fl us (gs.take i)) nm emptyS) (ps.take j))) (j + 1) (upd H11 D (.lst (acc ++ [.str ps[j]]))) else LP _ D (fun j => sV (freeOf fl (setA (seatU fl us (gs.take i)) nm emptyS) (ps.take j))) (j + 1) H11) := fun H11 s11 => by
              refine ite2 (fun e => ?_) (fun e => ?_)
              · refine p.put nD s11 ?_ ?_
                · rw [eF, if_pos e]
                  simp [sV]
                · rw [sizeLine_eq]
                  have : (freeOf fl (setA (seatU fl us (gs.take i)) nm emptyS) (ps.take j)).length ≤ (ps.take j).length := List.length_filter_le ..
                  rw [List.length_take] at this
                  simp only [sV, List.length_map]
                  omega
              · refine p.skip s11 ?_
                rw [eF, if_neg e]
                simp
            cases hfail : decide (ps[j] ∈ fl) with
            | true =>
              have q := fin H10 (Same.refl _)
              rw [hfail] at q
              exact iteF (show (if false = true then _ else _ : Prop) from iteF (by simpa using q))
            | false =>
              refine iteT ?_
              refine ⟨.str ps[j], rfl, .ref ww, rfl, ww, .ref u, rfl, W10.gU, u, _, rfl, W10.hu, fun L nL => ?_⟩
              rw [dS_vals]
              have s11 : Same H10 (upd H10 L (.lst (sV ((setA (seatU fl us (gs.take i)) nm emptyS).map (·.2))))) := Same.new nL
              refine ⟨L, sV ((setA (seatU fl us (gs.take i)) nm emptyS).map (·.2)), rfl, .inl (.of upd_same), rfl, flat_sV _, !decide (ps[j] ∈ (setA (seatU fl us (gs.take i)) nm emptyS).map (·.2)), by show V.bl (!inV (.str ps[j]) (sV _)) = _; rw [inV_sV], ?_⟩
              have q := fin _ s11
              rw [hfail] at q
              simp only [Bool.not_false, Bool.true_and] at q
              refine ite2 (fun e => ?_) (fun e => ?_)
              · rw [if_pos e] at q
                exact ⟨.str ps[j], rfl, q⟩
              · rw [if_neg e] at q
                exact q
          · have hD : H9 D = some (.lst (sV (freeOf fl (setA (seatU fl us (gs.take i)) nm emptyS) ps))) := by
              rw [p.at_]
              simp [sV, List.take_of_length_le]
            have W9 := W8.same p.sm
            have ku9 := ku8.trans (Same.ku p.sm)
            have ht9 := Same.sqt p.sm ht8
            have hfl : (freeOf fl (setA (seatU fl us (gs.take i)) nm emptyS) ps).length ≤ ps.length := List.length_filter_le ..
            refine ⟨.ref ww, rfl, ww, .ref u, rfl, W9.gU, .inr (.inr (.inl ⟨rfl, .inl ⟨_, W9.hu⟩⟩)), fun e ne => ?_⟩
            have s10 : Same H9 (upd H9 e (.dK [])) := Same.new ne
            refine ⟨.ref t, rfl, t, _, 0, .str nm, rfl, rfl, .inr (Same.sqt s10 ht9), rfl, .ref D, rfl, by show 1 ≤ sizeLine; decide, fun a na => ?_⟩
            have s11 := s10.trans (Same.new (o := .lst (sV [emptyS])) na)
            refine ⟨D, a, _, _, rfl, rfl, s11 _ _ hD, upd_same, by rw [sizeLine_eq]; simp [sV]; omega, fun b2 nb2 => ?_⟩
            have s12 := s11.trans (Same.new (o := .lst (sV (freeOf fl (setA (seatU fl us (gs.take i)) nm emptyS) ps) ++ sV [emptyS])) nb2)
            have e0 : atI (sV (freeOf fl (setA (seatU fl us (gs.take i)) nm emptyS) ps) ++ sV [emptyS]) 0 = some (.str ((freeOf fl (setA (seatU fl us (gs.take i)) nm emptyS) ps).headD emptyS)) := by
              cases freeOf fl (setA (seatU fl us (gs.take i)) nm emptyS) ps with
              | nil => exact at0
              | cons x r => exact at0
            have he11 : (upd (upd H9 e (.dK [])) a (.lst (sV [emptyS]))) e = some (.dK []) := by rw [upd_ne (ne_of_none upd_same na), upd_same]
            have he12 : (upd (upd (upd H9 e (.dK [])) a (.lst (sV [emptyS]))) b2 (.lst (sV (freeOf fl (setA (seatU fl us (gs.take i)) nm emptyS) ps) ++ sV [emptyS]))) e = some (.dK []) := by rw [upd_ne (ne_of_none he11 nb2)]; exact he11
            refine ⟨b2, _, 0, _, rfl, rfl, .of upd_same, e0, he12, [(.inr nm, .str ((freeOf fl (setA (seatU fl us (gs.take i)) nm emptyS) ps).headD emptyS))], rfl, by show 1 ≤ 15; decide, ?_⟩
            rw [dp1]
            have s13 : Same H9 (upd (upd (upd (upd H9 e (.dK [])) a (.lst (sV [emptyS]))) b2 (.lst (sV (freeOf fl (setA (seatU fl us (gs.take i)) nm emptyS) ps) ++ sV [emptyS]))) e (.dK [(.inr nm, .str ((freeOf fl (setA (seatU fl us (gs.take i)) nm emptyS) ps).headD emptyS))])) := Same.at s12 ne
            have W13 := W9.same s13
            refine ⟨u, e, _, .inr nm, .str ((freeOf fl (setA (seatU fl us (gs.take i)) nm emptyS) ps).headD emptyS), rfl, rfl, W13.hu, upd_same, ne_of_none W9.hu ne, small1000 (by rw [dS_len]; omega), ?_⟩
            rw [putK_dS V.str]
            refine ⟨_, _, _, rfl, (ku9.trans (Same.ku s13)).trans Ku.at, ?_⟩
            have e1 : seatU fl us (gs.take (i + 1)) = setA (setA (seatU fl us (gs.take i)) nm emptyS) nm ((freeOf fl (setA (seatU fl us (gs.take i)) nm emptyS) ps).headD emptyS) := by
              rw [suc]
              show (if _ then _ else _ : Uses) = _
              rw [if_pos hyes]
            rw [e1]
            exact W13.put
        · have hno : ¬ ((getA (seatU fl us (gs.take i)) nm).getD emptyS = emptyS ∨ (getA (seatU fl us (gs.take i)) nm).getD emptyS ∈ fl) := by
            intro h
            refine e (decide_eq_true ?_)
            rcases h with h | h
            · rw [h]; exact List.mem_cons_self ..
            · exact List.mem_cons_of_mem _ h
          have e1 : seatU fl us (gs.take (i + 1)) = seatU fl us (gs.take i) := by
            rw [suc]
            show (if _ then _ else _ : Uses) = _
            rw [if_neg hno]
          refine ⟨_, _, _, rfl, ku.trans (Same.ku s5), ?_⟩
          rw [e1]
          exact W2.same s5
    · obtain ⟨_, _, _, rfl, ku, W2⟩ := p
      rw [el, List.take_length] at W2
      exact q _ ku W2
end
end Kf

set_option Elab.async false
set_option linter.all false
set_option maxRecDepth 100000
set_option maxHeartbeats 2000000
namespace Kf
open PySem PySem.Spec PyProof.Rows L2 LamX NdefX
def lawT (us : Uses) (sn : List (Str × Int)) (c : Int) (tr : Tr) : G → Bool
  | .before _ x y => lookT tr x && (lookT tr y && decide ((getA sn x).getD c < (getA sn y).getD c))
  | g => gTruth tr us g
theorem not_false_in : ∀ l : List Bool, (!inV (.bl false) (l.map V.bl)) = l.all id
  | [] => rfl
  | b :: r => by
    have ih := not_false_in r
    unfold inV at ih ⊢
    rw [List.map_cons, List.any_cons, List.all_cons, ← ih]
    cases b <;> simp [eqV]
theorem flat_bl : ∀ l : List Bool, (l.map V.bl).all flatV = true
  | [] => rfl
  | b :: r => by
    show (flatV (.bl b) && (r.map V.bl).all flatV) = true
    rw [flat_bl r]
    rfl
theorem any_len {α : Type} (f : α → Bool) : ∀ l : List α, decide (1 ≤ ((l.filter f).length : Int)) = l.any f
  | [] => by simp
  | x :: r => by
    by_cases h : f x = true
    · rw [List.filter_cons, if_pos h, List.any_cons, h]
      simp
      omega
    · rw [List.filter_cons, if_neg h, List.any_cons, any_len f r]
      simp [h]
section
variable {P : Program} {w : World} {K : PySem.W.Frag} {mg : Str → Option Value} {base : Heap}
def ones (n : Nat) : List V := List.replicate n (.int 1)
def spLawTruth (K : PySem.W.Frag) : Sp := fun vs H Q _ => ∃ ww v f g u s c fl us sn tr gt, vs = [.ref ww, v, .ref f] ∧ WAt H ww g u s c fl us sn ∧ GateAt K H v gt ∧ H f = some (.dK (dS V.bl tr)) ∧ Reads1 tr us gt ∧ ∀ H', Same H H' → Q (.bl (lawT us sn c tr gt)) H'
theorem ok_law_truth {f : Addr} {fd : FuncData} {k : Nat} (F : L2.Fun K "_law_truth" "_law_truth" s__law_truth f fd) (T : Nm mg) : FnOk P w K mg base CX0 (k + 1) f fd ["w", "gate", "found"] (spLawTruth K) := by
  refine F.ok sc__law_truth (fun vs H Q E h => ?_) (fun cdv A outer s H vs Q E hr h => ?_)
  · obtain ⟨ww, v, f, g, u, s, c, fl, us, sn, tr, gt, rfl, _⟩ := h
    rfl
  · obtain ⟨ww, v, f, g, u, s', c, fl, us, sn, tr, gt, rfl, W, h, hf, hk, q⟩ := h
    have hu := hu_of hr
    refine ⟨_, (pss_cons (ps_if (pt_cmpR op_eq (pe_ix (ix_sqK (K := K) rfl) (pv 1) pe_int (fun _ _ => rfl)) pe_str (nomark _))
 (pss_one (ps_ret (pe_cmpR op_eq (pe_dget hu (pe_dget hu (pv 0) pe_str (fun _ _ => rfl)) (pe_ix (ix_sqK (K := K) rfl) (pv 1) pe_int (fun _ _ => rfl)) (fun _ _ => rfl)) pe_str (nomark _))))
 pss_nil)
 (pss_cons (ps_if (pt_cmpR op_eq (pe_ix (ix_sqK (K := K) rfl) (pv 1) pe_int (fun _ _ => rfl)) pe_str (nomark _))
 (pss_cons (ps_setLc (i := 3) (own := [("name", 5)]) (g := gName 5) (by rfl) sc__law_truth.nd rfl rfl (sw_true rfl rfl rfl (by decide +kernel)) (pi_sq (pe_slice (sl_sqK (K := K) rfl) (pv 1) (po_some pe_int) po_none)) (blkOk_by (own := [("name", 5)]) (N := ["w", "gate", "found", "begins", "inputs", "name", "truth"]) (sc := defScope s__law_truth) (by decide +kernel)) (fun _ _ _ _ _ => pg_name (i := 5) sc__law_truth.nd rfl (.inl rfl)) (fun _ _ _ _ _ => pts_nil) (fun _ _ _ _ _ => (pe_dget2 hu (pe_dget hu (pv 0) pe_str (fun _ _ => rfl)) (pv 5) (pe_dget hu (pv 0) pe_str (fun _ _ => rfl)) ⟨rfl, rfl, rfl, rfl⟩)))
 (pss_one (ps_ret (pe_and (pe_dget hu (pv 2) (pe_ix (ix_sqK (K := K) rfl) (pv 1) pe_int (fun _ _ => rfl)) (fun _ _ => rfl)) (pe_and (pe_dget hu (pv 2) (pe_ix (ix_sqK (K := K) rfl) (pv 1) pe_int (fun _ _ => rfl)) (fun _ _ => rfl)) (pe_one (pe_cmpR op_lt (pe_ix ix_list (pv 3) pe_int (fun _ _ => rfl)) (pe_ix ix_list (pv 3) pe_int (fun _ _ => rfl)) (nomark _))))))))
 pss_nil)
 (pss_cons (ps_setLc (i := 4) (own := [("name", 5)]) (g := gName 5) (by rfl) sc__law_truth.nd rfl rfl (sw_true rfl rfl rfl (by decide +kernel)) (pi_sq (pe_ix (ix_sqK (K := K) rfl) (pv 1) (pe_un un_neg pe_int) (fun _ _ => rfl))) (blkOk_by (own := [("name", 5)]) (N := ["w", "gate", "found", "begins", "inputs", "name", "truth"]) (sc := defScope s__law_truth) (by decide +kernel)) (fun _ _ _ _ _ => pg_name (i := 5) sc__law_truth.nd rfl (.inl rfl)) (fun _ _ _ _ _ => pts_nil) (fun _ _ _ _ _ => (pe_dget hu (pv 2) (pv 5) (fun _ _ => rfl))))
 (pss_cons (ps_if (pt_cmpR op_eq (pe_ix (ix_sqK (K := K) rfl) (pv 1) pe_int (fun _ _ => rfl)) pe_str (nomark _))
 (pss_one (ps_ret (pe_cmpR (op_notInK (K := K) rfl) pe_bl (pv 4) (by with_unfolding_all rfl))))
 pss_nil)
 (pss_one (ps_ret (pe_cmpR op_ge (pe_callB (call_lenK (K := K) rfl) (by rfl) T.n_len (by decide +kernel) (pa_cons (pe_lc (own := [("truth", 6)]) (g := gName 6) (by rfl) sc__law_truth.nd (pi_list (pv 4)) (blkOk_by (own := [("truth", 6)]) (N := ["w", "gate", "found", "begins", "inputs", "name", "truth"]) (sc := defScope s__law_truth) (by decide +kernel)) (fun _ _ _ _ _ => pg_name (i := 6) sc__law_truth.nd rfl (.inl rfl)) (fun _ _ _ _ _ => pts_one (pt_val (pv 6))) (fun _ _ _ _ _ => pe_int)) pa_nil)) (pe_ifExp (pt_cmpR op_eq (pe_ix (ix_sqK (K := K) rfl) (pv 1) pe_int (fun _ _ => rfl)) pe_str (nomark _)) pe_int (pe_ix (ix_sqK (K := K) rfl) (pv 1) pe_int (fun _ _ => rfl))) (nomark _)))))))), ?_⟩
    obtain ⟨t, rest, rfl, ht, _⟩ := h.cut
    refine ⟨.ref t, rfl, t, _, 1, .str gt.word, rfl, rfl, .inr ht, at1, rfl, _, rfl, ?_⟩
    -- the inputs' truths
    have inp : ∀ (ins : List Str) (pu : Addr), SqT K H pu (sV ins) → (∀ x ∈ ins, KeyIn tr x) → ins.length ≤ 1000 → True := fun _ _ _ _ _ => trivial
    cases gt with
    | spare n ps =>
      obtain ⟨t', pu, e, ht', hpu⟩ := h
      cases e
      refine iteD rfl ?_
      obtain ⟨z, hz, hg⟩ := KeyIn.get hk W.hu
      refine ⟨.ref ww, rfl, ww, .ref u, rfl, W.gU, .ref t, rfl, t, _, 0, .str n, rfl, rfl, .inr ht', rfl, u, _, rfl, hg, rfl, ?_⟩
      show Q (V.bl (decide (V.str z = V.str emptyS))) H
      rw [decStr]
      have e : decide (z = emptyS) = lawT us sn c tr (.spare n ps) := by show _ = decide ((getA us n).getD emptyS = emptyS); rw [hz]; rfl
      rw [e]
      exact q _ (Same.refl _)
    | before n x y =>
      obtain ⟨t', e, ht'⟩ := h
      cases e
      refine iteN (litNe ne_before_spare) ?_
      refine ⟨.ref t, rfl, t, _, 1, .str "before", rfl, rfl, .inr ht', at1, rfl, _, rfl, iteD rfl ?_⟩
      have gs : ∀ (z : Str) (H5 : Hp), Same H H5 → DGet H5 s' (.str z) ((getA sn z).map V.int) := fun z H5 s5 => by
        have q := DGet.k (k := .inr z) (s5 _ _ W.hs)
        rw [valV_dS] at q
        exact q
      refine ⟨.ref t, rfl, 2, rfl, rSlQ.of (.inr ht') fun pc H2 s2 hpc => ?_⟩
      have e2 : cutV [V.str n, V.str "before", V.str x, V.str y] (some 2) none = sV [x, y] := cut_from (i := 2) (by simp)
      rw [e2] at hpc
      obtain ⟨b, hb⟩ := hpc.b
      refine ⟨pc, b, rfl, ⟨_, hb⟩, fun D nD => ?_⟩
      refine lc_it (walk_sq (xs := sV [x, y])) (LP H2 D fun j => (([x, y].take j).map fun z => V.int ((getA sn z).getD c))) (LP.zero nD rfl) (fun _ _ _ p => Same.sqb p.sm hb) (fun j z H3 H4 hj p yy => ?_) (fun H3 p => ?_)
      · obtain ⟨rfl, hx⟩ := yy
        have hj2 : j < [x, y].length := by simpa [sV] using hj
        have hx2 : (sV [x, y])[j]? = some (.str [x, y][j]) := by
          show ([x, y].map V.str)[j]? = _
          rw [List.getElem?_map, List.getElem?_eq_getElem hj2]
          rfl
        obtain rfl : z = .str [x, y][j] := Option.some.inj (hx.symm.trans hx2)
        have s4 := s2.trans p.sm
        have W4 := W.same s4
        refine ⟨rfl, .ref ww, rfl, ww, .ref s', rfl, W4.gS, s', rfl, .inl ⟨_, .inl W4.hs⟩, .str [x, y][j], rfl, .ref ww, rfl, ww, .int c, rfl, W4.gC, _, gs [x, y][j] _ s4, ?_⟩
        have ev : (((getA sn [x, y][j]).map V.int).getD (V.int c)) = V.int ((getA sn [x, y][j]).getD c) := by
          cases getA sn [x, y][j] <;> rfl
        rw [ev]
        refine p.put nD (Same.refl _) ?_ (by rw [sizeLine_eq]; simp; omega)
        show ([x, y].take (j + 1)).map _ = ([x, y].take j).map _ ++ [_]
        rw [List.take_add_one, List.getElem?_eq_getElem hj2, List.map_append]
        rfl
      · have hD : H3 D = some (.lst [.int ((getA sn x).getD c), .int ((getA sn y).getD c)]) := p.at_
        have s3 := s2.trans p.sm
        have hf3 := s3 _ _ hf
        have ht3 := Same.sqt s3 ht'
        refine ⟨.ref f, rfl, .ref t, rfl, t, _, 2, .str x, rfl, rfl, .inr ht3, rfl, f, _, rfl, hk.1.look hf3, lookT tr x, rfl, ?_⟩
        cases hx : lookT tr x with
        | false =>
          have e : lawT us sn c tr (.before n x y) = false := by show (lookT tr x && _) = false; rw [hx]; rfl
          have q := q H3 s3
          rw [e] at q
          exact iteF q
        | true =>
          refine iteT ?_
          refine ⟨.ref f, rfl, .ref t, rfl, t, _, 3, .str y, rfl, rfl, .inr ht3, rfl, f, _, rfl, hk.2.look hf3, lookT tr y, rfl, ?_⟩
          cases hy : lookT tr y with
          | false =>
            have e : lawT us sn c tr (.before n x y) = false := by show (lookT tr x && (lookT tr y && _)) = false; rw [hx, hy]; rfl
            have q := q H3 s3
            rw [e] at q
            exact iteF q
          | true =>
            refine iteT ?_
            have e : lawT us sn c tr (.before n x y) = decide ((getA sn x).getD c < (getA sn y).getD c) := by show (lookT tr x && (lookT tr y && _)) = _; rw [hx, hy]; rfl
            have q := q H3 s3
            rw [e] at q
            exact ⟨.ref D, rfl, D, _, 0, _, rfl, rfl, .of hD, at0, .ref D, rfl, D, _, 1, _, rfl, rfl, .of hD, at1, _, _, rfl, rfl, q⟩
    | all n ins =>
      obtain ⟨t', pu, e, ht', hpu⟩ := h
      cases e
      obtain ⟨hk1, hk2⟩ := hk
      refine iteN (litNe ne_all_spare) ?_
      refine ⟨.ref t, rfl, t, _, 1, .str "all", rfl, rfl, .inr ht', at1, rfl, _, rfl, iteN (litNe ne_all_before) ?_⟩
      refine ⟨.ref t, rfl, 1, rfl, t, _, -1, .ref pu, rfl, rfl, .inr ht', atI_last [V.str n, V.str "all"] _, pu, false, rfl, ⟨_, hpu⟩, fun D nD => ?_⟩
      refine lc_it (walk_sq (xs := sV ins)) (LP H D fun j => ((ins.take j).map (lookT tr)).map V.bl) (LP.zero nD rfl) (fun _ _ _ p => Same.sqb (b := false) p.sm hpu) (fun j x H2 H3 hj p y => ?_) (fun H2 p => ?_)
      · obtain ⟨rfl, hx⟩ := y
        have hj2 : j < ins.length := by simpa [sV] using hj
        have hx2 : (sV ins)[j]? = some (.str ins[j]) := by simp [sV, hj2]
        obtain rfl : x = .str ins[j] := Option.some.inj (hx.symm.trans hx2)
        have eT : ins.take (j + 1) = ins.take j ++ [ins[j]] := by rw [List.take_add_one, List.getElem?_eq_getElem hj2]; rfl
        refine ⟨rfl, .ref f, rfl, .str ins[j], rfl, f, _, rfl, (hk1 _ (List.getElem_mem hj2)).look (p.sm _ _ hf), ?_⟩
        exact p.put nD (Same.refl _) (by show ((ins.take (j + 1)).map (lookT tr)).map V.bl = _; rw [eT, List.map_append, List.map_append]; rfl) (by rw [sizeLine_eq]; simp; omega)
      · have hD : H2 D = some (.lst ((ins.map (lookT tr)).map V.bl)) := by rw [p.at_]; simp [sV, List.take_of_length_le]
        have ht2 := Same.sqt p.sm ht'
        refine ⟨.ref t, rfl, t, _, 1, .str "all", rfl, rfl, .inr ht2, at1, rfl, _, rfl, ?_⟩
        refine iteD rfl ⟨.ref D, rfl, D, _, rfl, .inl (.of hD), rfl, flat_bl _, ?_⟩
        have e : (!inV (.bl false) ((ins.map (lookT tr)).map V.bl)) = lawT us sn c tr (.all n ins) := by rw [not_false_in, all_map]; rfl
        show Q (V.bl (!inV (.bl false) ((ins.map (lookT tr)).map V.bl))) H2
        rw [e]
        exact q _ p.sm
    | any n ins =>
      obtain ⟨t', pu, e, ht', hpu⟩ := h
      cases e
      obtain ⟨hk1, hk2⟩ := hk
      refine iteN (litNe ne_any_spare) ?_
      refine ⟨.ref t, rfl, t, _, 1, .str "any", rfl, rfl, .inr ht', at1, rfl, _, rfl, iteN (litNe ne_any_before) ?_⟩
      refine ⟨.ref t, rfl, 1, rfl, t, _, -1, .ref pu, rfl, rfl, .inr ht', atI_last [V.str n, V.str "any"] _, pu, false, rfl, ⟨_, hpu⟩, fun D nD => ?_⟩
      refine lc_it (walk_sq (xs := sV ins)) (LP H D fun j => ((ins.take j).map (lookT tr)).map V.bl) (LP.zero nD rfl) (fun _ _ _ p => Same.sqb (b := false) p.sm hpu) (fun j x H2 H3 hj p y => ?_) (fun H2 p => ?_)
      · obtain ⟨rfl, hx⟩ := y
        have hj2 : j < ins.length := by simpa [sV] using hj
        have hx2 : (sV ins)[j]? = some (.str ins[j]) := by simp [sV, hj2]
        obtain rfl : x = .str ins[j] := Option.some.inj (hx.symm.trans hx2)
        have eT : ins.take (j + 1) = ins.take j ++ [ins[j]] := by rw [List.take_add_one, List.getElem?_eq_getElem hj2]; rfl
        refine ⟨rfl, .ref f, rfl, .str ins[j], rfl, f, _, rfl, (hk1 _ (List.getElem_mem hj2)).look (p.sm _ _ hf), ?_⟩
        exact p.put nD (Same.refl _) (by show ((ins.take (j + 1)).map (lookT tr)).map V.bl = _; rw [eT, List.map_append, List.map_append]; rfl) (by rw [sizeLine_eq]; simp; omega)
      · have hD : H2 D = some (.lst ((ins.map (lookT tr)).map V.bl)) := by rw [p.at_]; simp [sV, List.take_of_length_le]
        have ht2 := Same.sqt p.sm ht'
        refine ⟨.ref t, rfl, t, _, 1, .str "any", rfl, rfl, .inr ht2, at1, rfl, _, rfl, ?_⟩
        refine iteN (litNe ne_any_all) ?_
        refine ⟨.ref D, rfl, D, rfl, ⟨_, .of hD⟩, fun O nO => ?_⟩
        refine lc_it (walk_list (xs := (ins.map (lookT tr)).map V.bl)) (LP H2 O fun j => ones ((ins.take j).filter (lookT tr)).length) (LP.zero nO rfl) (fun _ _ _ p => p.sm.seq (.of hD)) (fun j x H3 H4 hj p3 y => ?_) (fun H3 p3 => ?_)
        · obtain ⟨rfl, hx⟩ := y
          have hj2 : j < ins.length := by simpa using hj
          have hx2 : ((ins.map (lookT tr)).map V.bl)[j]? = some (.bl (lookT tr ins[j])) := by simp [hj2]
          obtain rfl : x = .bl (lookT tr ins[j]) := Option.some.inj (hx.symm.trans hx2)
          have eT : ins.take (j + 1) = ins.take j ++ [ins[j]] := by rw [List.take_add_one, List.getElem?_eq_getElem hj2]; rfl
          have hle : ((ins.take j).filter (lookT tr)).length ≤ (ins.take j).length := List.length_filter_le ..
          rw [List.length_take] at hle
          refine ⟨rfl, .bl (lookT tr ins[j]), rfl, _, rfl, ite2 (fun e => ?_) (fun e => ?_)⟩
          · refine p3.put nO (Same.refl _) ?_ (by rw [sizeLine_eq]; simp only [ones, List.length_replicate]; omega)
            show ones _ = ones _ ++ [_]
            rw [eT, List.filter_append, filter_one, if_pos e, List.length_append]
            unfold ones
            rw [List.length_singleton, List.replicate_succ']
          · refine p3.skip (Same.refl _) ?_
            show ones _ = ones _
            rw [eT, List.filter_append, filter_one, if_neg e, List.append_nil]
        · have hO : H3 O = some (.lst (ones (ins.filter (lookT tr)).length)) := by rw [p3.at_]; simp [List.take_of_length_le]
          have s3 := p.sm.trans p3.sm
          have ht3 := Same.sqt p3.sm ht2
          have lO : (ones (ins.filter (lookT tr)).length).length = (ins.filter (lookT tr)).length := by simp [ones]
          refine ⟨O, _, rfl, .inl (.of hO), ?_⟩
          rw [lO]
          refine ⟨.ref t, rfl, t, _, 1, .str "any", rfl, rfl, .inr ht3, at1, rfl, _, rfl, ?_⟩
          refine iteD rfl ⟨_, 1, rfl, rfl, ?_⟩
          have e : decide ((1 : Int) ≤ ((ins.filter (lookT tr)).length : Int)) = lawT us sn c tr (.any n ins) := by rw [any_len]; rfl
          show Q (V.bl (decide ((1 : Int) ≤ ((ins.filter (lookT tr)).length : Int)))) H3
          rw [e]
          exact q _ s3
    | least n m ins =>
      obtain ⟨t', pu, e, ht', hpu⟩ := h
      cases e
      obtain ⟨hk1, hk2⟩ := hk
      refine iteN (litNe ne_least_spare) ?_
      refine ⟨.ref t, rfl, t, _, 1, .str "least", rfl, rfl, .inr ht', at1, rfl, _, rfl, iteN (litNe ne_least_before) ?_⟩
      refine ⟨.ref t, rfl, 1, rfl, t, _, -1, .ref pu, rfl, rfl, .inr ht', atI_last [V.str n, V.str "least", V.int m] _, pu, false, rfl, ⟨_, hpu⟩, fun D nD => ?_⟩
      refine lc_it (walk_sq (xs := sV ins)) (LP H D fun j => ((ins.take j).map (lookT tr)).map V.bl) (LP.zero nD rfl) (fun _ _ _ p => Same.sqb (b := false) p.sm hpu) (fun j x H2 H3 hj p y => ?_) (fun H2 p => ?_)
      · obtain ⟨rfl, hx⟩ := y
        have hj2 : j < ins.length := by simpa [sV] using hj
        have hx2 : (sV ins)[j]? = some (.str ins[j]) := by simp [sV, hj2]
        obtain rfl : x = .str ins[j] := Option.some.inj (hx.symm.trans hx2)
        have eT : ins.take (j + 1) = ins.take j ++ [ins[j]] := by rw [List.take_add_one, List.getElem?_eq_getElem hj2]; rfl
        refine ⟨rfl, .ref f, rfl, .str ins[j], rfl, f, _, rfl, (hk1 _ (List.getElem_mem hj2)).look (p.sm _ _ hf), ?_⟩
        exact p.put nD (Same.refl _) (by show ((ins.take (j + 1)).map (lookT tr)).map V.bl = _; rw [eT, List.map_append, List.map_append]; rfl) (by rw [sizeLine_eq]; simp; omega)
      · have hD : H2 D = some (.lst ((ins.map (lookT tr)).map V.bl)) := by rw [p.at_]; simp [sV, List.take_of_length_le]
        have ht2 := Same.sqt p.sm ht'
        refine ⟨.ref t, rfl, t, _, 1, .str "least", rfl, rfl, .inr ht2, at1, rfl, _, rfl, ?_⟩
        refine iteN (litNe ne_least_all) ?_
        refine ⟨.ref D, rfl, D, rfl, ⟨_, .of hD⟩, fun O nO => ?_⟩
        refine lc_it (walk_list (xs := (ins.map (lookT tr)).map V.bl)) (LP H2 O fun j => ones ((ins.take j).filter (lookT tr)).length) (LP.zero nO rfl) (fun _ _ _ p => p.sm.seq (.of hD)) (fun j x H3 H4 hj p3 y => ?_) (fun H3 p3 => ?_)
        · obtain ⟨rfl, hx⟩ := y
          have hj2 : j < ins.length := by simpa using hj
          have hx2 : ((ins.map (lookT tr)).map V.bl)[j]? = some (.bl (lookT tr ins[j])) := by simp [hj2]
          obtain rfl : x = .bl (lookT tr ins[j]) := Option.some.inj (hx.symm.trans hx2)
          have eT : ins.take (j + 1) = ins.take j ++ [ins[j]] := by rw [List.take_add_one, List.getElem?_eq_getElem hj2]; rfl
          have hle : ((ins.take j).filter (lookT tr)).length ≤ (ins.take j).length := List.length_filter_le ..
          rw [List.length_take] at hle
          refine ⟨rfl, .bl (lookT tr ins[j]), rfl, _, rfl, ite2 (fun e => ?_) (fun e => ?_)⟩
          · refine p3.put nO (Same.refl _) ?_ (by rw [sizeLine_eq]; simp only [ones, List.length_replicate]; omega)
            show ones _ = ones _ ++ [_]
            rw [eT, List.filter_append, filter_one, if_pos e, List.length_append]
            unfold ones
            rw [List.length_singleton, List.replicate_succ']
          · refine p3.skip (Same.refl _) ?_
            show ones _ = ones _
            rw [eT, List.filter_append, filter_one, if_neg e, List.append_nil]
        · have hO : H3 O = some (.lst (ones (ins.filter (lookT tr)).length)) := by rw [p3.at_]; simp [List.take_of_length_le]
          have s3 := p.sm.trans p3.sm
          have ht3 := Same.sqt p3.sm ht2
          have lO : (ones (ins.filter (lookT tr)).length).length = (ins.filter (lookT tr)).length := by simp [ones]
          refine ⟨O, _, rfl, .inl (.of hO), ?_⟩
          rw [lO]
          refine ⟨.ref t, rfl, t, _, 1, .str "least", rfl, rfl, .inr ht3, at1, rfl, _, rfl, ?_⟩
          refine iteN (litNe ne_least_any) ⟨.ref t, rfl, t, _, 2, .int m, rfl, rfl, .inr ht3, at2, _, m, rfl, rfl, ?_⟩
          exact q _ s3
end
end Kf

set_option Elab.async false
set_option linter.all false
set_option maxRecDepth 100000
set_option maxHeartbeats 2000000
namespace Kf
open PySem PySem.Spec PyProof.Rows L2 LamX NdefX
def lawBf (us : Uses) (sn : List (Str × Int)) (c : Int) : G → Tr → Bool := fun g tr => lawT us sn c tr g
def lawTr (fl : List Str) (us : Uses) (sn : List (Str × Int)) (c : Int) (ps : List (Str × Str)) (gs : List G) : Tr := tellM (lawBf us sn c) fl us ps gs
theorem truth1_law {us : Uses} {sn : List (Str × Int)} {c : Int} {tr : Tr} {g : G} : truth1 (lawBf us sn c) us tr g = lawT us sn c tr g := by cases g <;> rfl
theorem paired_imp {α β : Type} {F F' : α → β → Prop} (h : ∀ a b, F a b → F' a b) : ∀ {xs : List α} {ys : List β}, Paired F xs ys → Paired F' xs ys
  | _, _, .nil => .nil
  | _, _, .cons a b => .cons (h _ _ a) (paired_imp h b)
theorem paired_snoc {α β : Type} {F : α → β → Prop} {x : α} {y : β} (h : F x y) : ∀ {xs : List α} {ys : List β}, Paired F xs ys → Paired F (xs ++ [x]) (ys ++ [y])
  | _, _, .nil => .cons h .nil
  | _, _, .cons a b => .cons a (paired_snoc h b)
theorem mergeK_dS {α β : Type} (f : α → V) (k : β → Str) (v : β → α) : ∀ (ps : List β) (l : List (Str × α)), mergeK (dS f l) (ps.map fun p => ((.inr (k p) : Key), f (v p))) = dS f (ps.foldl (fun acc p => setA acc (k p) (v p)) l)
  | [], l => rfl
  | p :: r, l => by
    show mergeK (putK (dS f l) (.inr (k p)) (f (v p))) (r.map _) = _
    rw [putK_dS, mergeK_dS f k v r]
    rfl
section
variable {P : Program} {w : World} {K : PySem.W.Frag} {mg : Str → Option Value} {base : Heap}
def spLawTruths (K : PySem.W.Frag) : Sp := fun vs H Q _ => ∃ m ww kvs pa xs ps ga ys gs g u s c fl us sn, vs = [.ref m, .ref ww] ∧ H m = some (.dK kvs) ∧ valV kvs (.inr "parts") = some (.ref pa) ∧ valV kvs (.inr "gates") = some (.ref ga) ∧ Sq K H pa xs ∧ Each (PartAt K H) xs ps ∧ Sq K H ga ys ∧ Each (GateAt K H) ys gs ∧ WAt H ww g u s c fl us sn ∧ TellOk ps us gs ∧
  ∀ H' p, Same H H' → H p = none → H' p = some (.dK (dS V.bl (lawTr fl us sn c ps gs))) → Q (.ref p) H'
theorem ok_law_truths {f : Addr} {fd : FuncData} (F : L2.Fun K "_law_truths" "_law_truths" s__law_truths f fd) (T : Nm mg) (C__law_truth : Cal P w K mg base 1 "_law_truth" ["w", "gate", "found"] (spLawTruth K)) : FnOk P w K mg base CX0 2 f fd ["m", "w"] (spLawTruths K) := by
  refine F.ok sc__law_truths (fun vs H Q E h => ?_) (fun cdv A outer s H vs Q E hr h => ?_)
  · obtain ⟨m, ww, kvs, pa, xs, ps, ga, ys, gs, g, u, s, c, fl, us, sn, rfl, _⟩ := h
    rfl
  · obtain ⟨m, ww, kvs, pa, xs, ps, ga, ys, gs, g, u, s', c, fl, us, sn, rfl, hm, hpa, hga, ha, hea, hb, heb, W, ok, q⟩ := h
    have hu := hu_of hr
    refine ⟨_, (pss_cons (ps_set (i := 2) sc__law_truths.nd rfl (.inl rfl) (pe_callTy (call_dictP rfl) (by rfl) T.n_dict (by decide +kernel) (pa_cons (pe_lc (own := [("name", 4), ("kind", 5)]) (by rfl) sc__law_truths.nd (pi_sq (pe_dget hu (pv 0) pe_str (fun _ _ => rfl))) (blkOk_by (own := [("name", 4), ("kind", 5)]) (N := ["m", "w", "found", "gate", "name", "kind"]) (sc := defScope s__law_truths) (by decide +kernel)) (fun _ _ _ _ _ => (pg_tupK (K := K) (n := 2) rfl rfl (pgs_cons (pg_name (i := 4) sc__law_truths.nd rfl (.inl rfl)) (pgs_cons (pg_name (i := 5) sc__law_truths.nd rfl (.inl rfl)) pgs_nil)))) (fun _ _ _ _ _ => pts_nil) (fun _ _ _ _ _ => (pe_tup (pa_cons (pv 4) (pa_cons (pe_cmpR (op_inK (K := K) rfl) (pv 4) (pe_dget hu (pv 1) pe_str (fun _ _ => rfl)) (by with_unfolding_all rfl)) pa_nil))))) pa_nil)))
 (pss_cons (ps_for PassesOwn.never rfl (pi_sq (pe_dget hu (pv 0) pe_str (fun _ _ => rfl))) (pg_name (i := 3) sc__law_truths.nd rfl (.inl rfl))
 (pss_one (ps_dput hu (pv 2) (pe_ix (ix_sqK (K := K) rfl) (pv 3) pe_int (fun _ _ => rfl)) (pe_cal C__law_truth (by decide) hr (by rfl) (pa_cons (pv 1) (pa_cons (pv 3) (pa_cons (pv 2) pa_nil)))) rfl)))
 (pss_one (ps_ret (pv 2))))), ?_⟩
    have gp : ∀ H5, Same H H5 → DGet H5 m (.str "parts") (some (.ref pa)) := fun H5 s5 => by
      have q := DGet.k (k := .inr "parts") (s5 _ _ hm)
      rw [hpa] at q
      exact q
    have gg : ∀ H5, Same H H5 → DGet H5 m (.str "gates") (some (.ref ga)) := fun H5 s5 => by
      have q := DGet.k (k := .inr "gates") (s5 _ _ hm)
      rw [hga] at q
      exact q
    obtain ⟨da, hda⟩ := ha.b
    obtain ⟨db, hdb⟩ := hb.b
    have ela := hea.1
    have elb := heb.1
    have hpl := ok.pl
    have hgl := ok.gl
    have p1 : ∀ b x, (part1 fl b x).length ≤ b.length + 1 := fun b x => setA_le ..
    have t1 : ∀ b x, (tell1 (lawBf us sn c) us b x).length ≤ b.length + 1 := fun b x => setA_le ..
    refine ⟨.ref m, rfl, m, _, rfl, gp H (Same.refl _), pa, da, rfl, ⟨_, hda⟩, fun D nD => ?_⟩
    refine lc_it (walk_sq (xs := xs)) (fun i H2 => Same H H2 ∧ ∃ as : List Addr, H2 D = some (.lst (as.map V.ref)) ∧ as.length = i ∧ Paired (fun p (kv : Key × V) => SqT K H2 p [kV kv.1, kv.2]) as ((ps.take i).map fun p => ((.inr p.1 : Key), V.bl (decide (p.1 ∈ fl)))))
      ⟨Same.new nD, [], upd_same, rfl, .nil⟩ (fun _ _ _ p => Same.sqb p.1 hda) (fun i x H2 H3 hi p y => ?_) (fun H2 p => ?_)
    · obtain ⟨rfl, hx⟩ := y
      obtain ⟨sm, as, hD, hlen, hp⟩ := p
      obtain ⟨pt, hpt, t, rfl, r⟩ := hea.2 i x hx
      have r := Same.sqt sm r
      have W3 := W.same sm
      refine ⟨t, _, rfl, r, rfl, .str pt.1, _, rfl, .str pt.2, [], rfl, rfl, rfl, .str pt.1, rfl, .str pt.1, rfl, .ref ww, rfl, ww, .ref g, rfl, W3.gG, g, _, rfl, .inl (.of W3.hg), rfl, flat_sV _, by show 2 ≤ sizeLine; decide, fun q' nq => ?_⟩
      have ev : V.bl (if false = true then !inV (.str pt.1) (sV fl) else inV (.str pt.1) (sV fl)) = V.bl (decide (pt.1 ∈ fl)) := by
        show V.bl (inV (.str pt.1) (sV fl)) = _
        rw [inV_sV]
      rw [ev]
      have s4 : Same H3 (upd H3 q' (.tup [.str pt.1, .bl (decide (pt.1 ∈ fl))])) := Same.new nq
      refine ⟨_, s4 _ _ hD, by rw [sizeLine_eq, List.length_map]; omega, Same.at (sm.trans s4) nD, as ++ [q'], by rw [upd_same, List.map_append]; rfl, by simp [hlen], ?_⟩
      have nDq : D ≠ q' := ne_of_none hD nq
      have kD : ∀ a l, SqT K H3 a l → SqT K (upd (upd H3 q' (.tup [.str pt.1, .bl (decide (pt.1 ∈ fl))])) D (.lst (as.map V.ref ++ [.ref q']))) a l := fun a l h => by
        have h2 := Same.sqt s4 h
        rcases h2 with (h2 | ⟨o, h2⟩) | h2
        · exact .inl (.inl (by rw [upd_ne (ne_of h2 (s4 _ _ hD) (by intro z; cases z))]; exact h2))
        · exact .inl (.inr ⟨o, by rw [upd_ne (ne_of h2 (s4 _ _ hD) (by intro z; cases z))]; exact h2⟩)
        · exact .inr h2
      rw [List.take_add_one, hpt, List.map_append]
      refine paired_snoc ?_ (paired_imp (fun a b h => kD _ _ h) hp)
      exact .of (by rw [upd_ne nDq.symm, upd_same]; rfl)
    · obtain ⟨sm, as, hD, hlen, hp⟩ := p
      rw [ela, List.take_length] at hp
      refine ⟨D, as, _, rfl, .of hD, hp, fun F0 nF => ?_⟩
      have em : mergeK [] (ps.map fun p => ((.inr p.1 : Key), V.bl (decide (p.1 ∈ fl)))) = dS V.bl (partsTr fl ps) := mergeK_dS V.bl (fun p : Str × Str => p.1) (fun p => decide (p.1 ∈ fl)) ps []
      rw [em]
      have s3 : Same H (upd H2 F0 (.dK (dS V.bl (partsTr fl ps)))) := sm.trans (Same.new nF)
      have nF0 : H F0 = none := sm.free nF
      refine ⟨.ref m, rfl, m, _, rfl, gg _ s3, ga, db, rfl, ⟨_, Same.sqb s3 hdb⟩, for_it (walk_sq (xs := ys)) (fun i σ H3 => ∃ y3 y4 y5, σ = [some (.ref m), some (.ref ww), some (.ref F0), y3, y4, y5] ∧ Same H H3 ∧ H3 F0 = some (.dK (dS V.bl ((gs.take i).foldl (tell1 (lawBf us sn c) us) (partsTr fl ps))))) ⟨_, _, _, rfl, s3, upd_same⟩ (fun i σ H3 hi p => ?_) (fun i x σ H3 H4 hi p y => ?_) (fun σ H3 p => ?_)⟩
      · obtain ⟨_, _, _, _, sm, _⟩ := p
        exact Same.sqb sm hdb
      · obtain ⟨y3, y4, y5, rfl, sm, hn⟩ := p
        obtain ⟨rfl, hx⟩ := y
        obtain ⟨gt, hg, r⟩ := heb.2 i x hx
        have r := GateAt.kt (Same.kt sm) r
        obtain ⟨t, rest, rfl, ht, _⟩ := r.cut
        have hrd : Reads1 ((gs.take i).foldl (tell1 (lawBf us sn c) us) (partsTr fl ps)) us gt := (ok.each i gt hg).at fun x hx => keyIn_tell (by
          rcases List.mem_append.mp hx with h | h
          · exact .inl (keyIn_parts h)
          · exact .inr h)
        have suc := fold_succ (tell1 (lawBf us sn c) us) (partsTr fl ps) hg
        have hlen : (dS V.bl ((gs.take i).foldl (tell1 (lawBf us sn c) us) (partsTr fl ps))).length ≤ 1000 := by
          rw [dS_len]
          have h1 := fold_le t1 (gs.take i) (partsTr fl ps)
          have h2 := fold_le p1 ps []
          have h3 : (partsTr fl ps).length ≤ ps.length := by simpa [partsTr] using h2
          have h4 : (gs.take i).length ≤ gs.length := by rw [List.length_take]; omega
          omega
        refine ⟨.ref ww, rfl, .ref t, rfl, .ref F0, rfl, ww, .ref t, F0, g, u, s', c, fl, us, sn, _, gt, rfl, W.same sm, r, hn, hrd, fun H5 s5 => ?_⟩
        refine ⟨.ref F0, rfl, .ref t, rfl, t, _, 0, .str gt.name, rfl, rfl, .inr (Same.sqt s5 ht), at0, F0, _, rfl, DPut.k (k := .inr gt.name) (s5 _ _ hn) (small1000 hlen), ?_⟩
        refine ⟨_, _, _, rfl, Same.at (sm.trans s5) nF0, ?_⟩
        rw [upd_same, putK_dS V.bl, suc, ← truth1_law]
        rfl
      · obtain ⟨_, _, _, rfl, sm, hn⟩ := p
        rw [elb, List.take_length] at hn
        exact ⟨.ref F0, rfl, q _ F0 sm nF0 hn⟩
end
end Kf

set_option Elab.async false
set_option linter.all false
set_option maxRecDepth 100000
set_option maxHeartbeats 2000000
namespace Kf
open PySem PySem.Spec PyProof.Rows L2 LamX NdefX
def trueNames (tr : Tr) : List Str := (tr.map (·.1)).filter (lookT tr)
def sinceU (tr : Tr) (sn : List (Str × Int)) (c : Int) : List (Str × Int) := (trueNames tr).foldl (fun acc n => setA acc n ((getA sn n).getD c)) []
theorem keyIn_set_iff {α : Type} {l : List (Str × α)} {n m : Str} {x : α} : KeyIn (setA l n x) m ↔ KeyIn l m ∨ n = m := by
  unfold KeyIn
  rw [setA_any, Bool.or_eq_true, decide_eq_true_eq]
theorem keyIn_foldU {α β : Type} {k : β → Str} {v : β → α} {m : Str} : ∀ (ls : List β) (l : List (Str × α)), KeyIn (ls.foldl (fun acc n => setA acc (k n) (v n)) l) m ↔ KeyIn l m ∨ m ∈ ls.map k
  | [], l => by simp
  | x :: r, l => by
    rw [List.foldl_cons, keyIn_foldU r, keyIn_set_iff, List.map_cons, List.mem_cons]
    constructor
    · rintro ((h | h) | h)
      · exact .inl h
      · exact .inr (.inl h.symm)
      · exact .inr (.inr h)
    · rintro (h | h | h)
      · exact .inl (.inl h)
      · exact .inl (.inr h.symm)
      · exact .inr h
theorem look_key {tr : Tr} {n : Str} (h : lookT tr n = true) : n ∈ tr.map (·.1) := by
  unfold lookT at h
  cases e : getA tr n with
  | none => rw [e] at h; cases h
  | some b =>
    have := getA_any e
    obtain ⟨p, hp, h2⟩ := List.any_eq_true.mp this
    exact List.mem_map.mpr ⟨p, hp, of_decide_eq_true h2⟩
theorem since_iff {tr : Tr} {sn : List (Str × Int)} {c : Int} {n : Str} : KeyIn (sinceU tr sn c) n ↔ lookT tr n = true := by
  unfold sinceU
  rw [keyIn_foldU (k := fun n : Str => n)]
  constructor
  · rintro (h | h)
    · cases h
    · obtain ⟨x, hx, rfl⟩ := List.mem_map.mp h
      exact (List.mem_filter.mp hx).2
  · intro h
    exact .inr (List.mem_map.mpr ⟨n, List.mem_filter.mpr ⟨look_key h, h⟩, rfl⟩)
theorem tellM_le {bf : G → Tr → Bool} {fl : List Str} {us : Uses} {ps : List (Str × Str)} {gs : List G} : (tellM bf fl us ps gs).length ≤ ps.length + gs.length := by
  have h1 := fold_le (f := tell1 bf us) (fun b x => setA_le ..) gs (partsTr fl ps)
  have h2 := fold_le (f := part1 fl) (fun b x => setA_le ..) ps []
  have h3 : (partsTr fl ps).length ≤ ps.length := by simpa [partsTr] using h2
  have h4 : (tellM bf fl us ps gs).length ≤ (partsTr fl ps).length + gs.length := h1
  omega
section
variable {P : Program} {w : World} {K : PySem.W.Frag} {mg : Str → Option Value} {base : Heap}
def spClosed (K : PySem.W.Frag) : Sp := fun vs H Q _ => ∃ m ww kvs pa xs ps ga ys gs g u s c fl us sn, vs = [.ref m, .ref ww] ∧ H m = some (.dK kvs) ∧ valV kvs (.inr "parts") = some (.ref pa) ∧ valV kvs (.inr "gates") = some (.ref ga) ∧ Sq K H pa xs ∧ Each (PartAt K H) xs ps ∧ Sq K H ga ys ∧ Each (GateAt K H) ys gs ∧ WAt H ww g u s c fl us sn ∧ TellOk ps us gs ∧
  ∀ H' s2, Ku ww H H' → H s2 = none → WAt H' ww g u s2 c fl us (sinceU (lawTr fl us sn c ps gs) sn c) → Q .non H'
theorem ok_law_closed {f : Addr} {fd : FuncData} (F : L2.Fun K "_law_closed" "_law_closed" s__law_closed f fd) (T : Nm mg) (C__law_truths : Cal P w K mg base 2 "_law_truths" ["m", "w"] (spLawTruths K)) : FnOk P w K mg base CX0 3 f fd ["m", "w"] (spClosed K) := by
  refine F.ok sc__law_closed (fun vs H Q E h => ?_) (fun cdv A outer s H vs Q E hr h => ?_)
  · obtain ⟨m, ww, kvs, pa, xs, ps, ga, ys, gs, g, u, s, c, fl, us, sn, rfl, _⟩ := h
    rfl
  · obtain ⟨m, ww, kvs, pa, xs, ps, ga, ys, gs, g, u, s', c, fl, us, sn, rfl, hm, hpa, hga, ha, hea, hb, heb, W, ok, q⟩ := h
    have hu := hu_of hr
    refine ⟨_, (pss_cons (ps_set (i := 2) sc__law_closed.nd rfl (.inr rfl) (pe_cal C__law_truths (by decide) hr (by rfl) (pa_cons (pv 0) (pa_cons (pv 1) pa_nil))))
 (pss_one (ps_dput hu (pv 1) pe_str (pe_callTy (call_dictP rfl) (by rfl) T.n_dict (by decide +kernel) (pa_cons (pe_lock (pe_lc (own := [("name", 3)]) (g := gName 3) (by rfl) sc__law_closed.nd (pi_keys (pv 2)) (blkOk_by (own := [("name", 3)]) (N := ["m", "w", "found", "name"]) (sc := defScope s__law_closed) (by decide +kernel)) (fun _ _ _ _ _ => pg_name (i := 3) sc__law_closed.nd rfl (.inl rfl)) (fun _ _ _ _ _ => pts_one (pt_val (pe_dget hu (pv 2) (pv 3) (fun _ _ => rfl)))) (fun _ _ _ _ _ => (pe_tup (pa_cons (pv 3) (pa_cons (pe_dget2 hu (pe_dget hu (pv 1) pe_str (fun _ _ => rfl)) (pv 3) (pe_dget hu (pv 1) pe_str (fun _ _ => rfl)) ⟨rfl, rfl, rfl, rfl⟩) pa_nil)))))) pa_nil)) rfl))), ?_⟩
    refine ⟨.ref m, rfl, .ref ww, rfl, m, ww, kvs, pa, xs, ps, ga, ys, gs, g, u, s', c, fl, us, sn, rfl, hm, hpa, hga, ha, hea, hb, heb, W, ok, fun H2 F0 s2 nF hF => ?_⟩
    obtain ⟨tr, etr⟩ : ∃ tr, tr = lawTr fl us sn c ps gs := ⟨_, rfl⟩
    rw [← etr] at hF
    have ltr : tr.length ≤ 1000 := by
      have h1 := ok.pl
      have h2 := ok.gl
      have h3 : tr.length ≤ ps.length + gs.length := by rw [etr]; exact tellM_le
      omega
    refine ⟨F0, _, hF, True.intro, fun od => ?_⟩
    have s3 : Same H (upd H2 F0 (.frz od (.dK (dS V.bl tr)))) := Same.at s2 nF
    refine ⟨.ref F0, rfl, F0, od, rfl, .inl ⟨dS V.bl tr, upd_same, fun D nD => ?_⟩⟩
    have hlen : (dS V.bl tr).length = tr.length := dS_len ..
    refine lc_it (walk_keys (kvs := dS V.bl tr)) (fun i H4 => Same (upd H2 F0 (.frz od (.dK (dS V.bl tr)))) H4 ∧ ∃ as : List Addr, H4 D = some (.lst (as.map V.ref)) ∧ as.length ≤ i ∧ Paired (fun p (kv : Key × V) => SqT K H4 p [kV kv.1, kv.2]) as ((((tr.map (·.1)).take i).filter (lookT tr)).map fun n => ((.inr n : Key), V.int ((getA sn n).getD c))))
      ⟨Same.new nD, [], upd_same, Nat.le_refl _, .nil⟩ (fun i H4 _ p => p.1 _ _ upd_same) (fun i x H4 H5 hi p y => ?_) (fun H4 p => ?_)
    · obtain ⟨rfl, ky, vv, hkv, rfl⟩ := y
      obtain ⟨sm, as, hD, hle, hp⟩ := p
      have hi2 : i < tr.length := by omega
      obtain ⟨⟨n, b⟩, htr⟩ : ∃ p, tr[i]? = some p := ⟨tr[i], List.getElem?_eq_getElem hi2⟩
      have ek : ky = .inr n := by
        have e : (dS V.bl tr)[i]? = some ((.inr n : Key), V.bl b) := by simp [dS, htr]
        rw [e] at hkv
        cases hkv
        rfl
      subst ek
      have s5 := s3.trans sm
      have W5 := W.same s5
      have hF5 := sm _ _ (upd_same (H := H2) (a := F0) (o := .frz od (.dK (dS V.bl tr))))
      have kin : KeyIn tr n := List.any_eq_true.mpr ⟨(n, b), List.mem_of_getElem? htr, decide_eq_true rfl⟩
      have gF : DGet H5 F0 (.str n) (some (.bl (lookT tr n))) := by
        refine .inl ⟨_, .inr n, .inr ⟨od, hF5⟩, rfl, ?_⟩
        obtain ⟨z, hz⟩ := getA_of_any kin
        rw [valV_dS, hz]
        have e : lookT tr n = z := by unfold lookT; rw [hz]; rfl
        rw [e]
        rfl
      have eT : (tr.map (·.1)).take (i + 1) = (tr.map (·.1)).take i ++ [n] := by
        have e : (tr.map (·.1))[i]? = some n := by simp [htr]
        rw [List.take_add_one, e]
        rfl
      refine ⟨rfl, .ref F0, rfl, .str n, rfl, F0, _, rfl, gF, lookT tr n, rfl, ite2 (fun e => ?_) (fun e => ?_)⟩
      · have gS : DGet H5 s' (.str n) ((getA sn n).map V.int) := by
          have q := DGet.k (k := .inr n) W5.hs
          rw [valV_dS] at q
          exact q
        refine ⟨.str n, rfl, .ref ww, rfl, ww, .ref s', rfl, W5.gS, s', rfl, .inl ⟨_, .inl W5.hs⟩, .str n, rfl, .ref ww, rfl, ww, .int c, rfl, W5.gC, _, gS, by show 2 ≤ sizeLine; decide, fun q' nq => ?_⟩
        have ev : (((getA sn n).map V.int).getD (V.int c)) = V.int ((getA sn n).getD c) := by cases getA sn n <;> rfl
        rw [ev]
        have s6 : Same H5 (upd H5 q' (.tup [.str n, .int ((getA sn n).getD c)])) := Same.new nq
        have nDq : D ≠ q' := ne_of_none hD nq
        refine ⟨_, s6 _ _ hD, by rw [sizeLine_eq, List.length_map]; omega, Same.at (sm.trans s6) nD, as ++ [q'], by rw [upd_same, List.map_append]; rfl, by simp; omega, ?_⟩
        have kD : ∀ a l, SqT K H5 a l → SqT K (upd (upd H5 q' (.tup [.str n, .int ((getA sn n).getD c)])) D (.lst (as.map V.ref ++ [.ref q']))) a l := fun a l h => by
          have h2 := Same.sqt s6 h
          rcases h2 with (h2 | ⟨o, h2⟩) | h2
          · exact .inl (.inl (by rw [upd_ne (ne_of h2 (s6 _ _ hD) (by intro z; cases z))]; exact h2))
          · exact .inl (.inr ⟨o, by rw [upd_ne (ne_of h2 (s6 _ _ hD) (by intro z; cases z))]; exact h2⟩)
          · exact .inr h2
        rw [eT, List.filter_append, filter_one, if_pos e, List.map_append]
        refine paired_snoc ?_ (paired_imp (fun a b h => kD _ _ h) hp)
        exact .of (by rw [upd_ne nDq.symm, upd_same]; rfl)
      · refine ⟨sm, as, hD, by omega, ?_⟩
        rw [eT, List.filter_append, filter_one, if_neg e, List.append_nil]
        exact hp
    · obtain ⟨sm, as, hD, hle, hp⟩ := p
      have hF4 := sm _ _ (upd_same (H := H2) (a := F0) (o := .frz od (.dK (dS V.bl tr))))
      refine ⟨hF4, ?_⟩
      rw [hlen, List.take_of_length_le (by simp)] at hp
      have s5 : Same H (upd H4 F0 (.dK (dS V.bl tr))) := Same.at (s3.trans sm) nF
      have nFD : D ≠ F0 := ne_of hD hF4 (by intro z; cases z)
      have hD5 : (upd H4 F0 (.dK (dS V.bl tr))) D = some (.lst (as.map V.ref)) := by rw [upd_ne nFD]; exact hD
      have kF : ∀ a l, SqT K H4 a l → SqT K (upd H4 F0 (.dK (dS V.bl tr))) a l := fun a l h => by
        rcases h with (h | ⟨o, h⟩) | h
        · exact .inl (.inl (by rw [upd_ne (ne_of h hF4 (by intro z; cases z))]; exact h))
        · exact .inl (.inr ⟨o, by rw [upd_ne (ne_of h hF4 (by intro z; cases z))]; exact h⟩)
        · exact .inr h
      refine ⟨D, as, _, rfl, .of hD5, paired_imp (fun a b h => kF _ _ h) hp, fun S nS => ?_⟩
      have em : mergeK [] ((((tr.map (·.1)).filter (lookT tr))).map fun n => ((.inr n : Key), V.int ((getA sn n).getD c))) = dS V.int (sinceU tr sn c) := mergeK_dS V.int (fun n : Str => n) (fun n => (getA sn n).getD c) (trueNames tr) []
      rw [em]
      have s6 : Same H (upd (upd H4 F0 (.dK (dS V.bl tr))) S (.dK (dS V.int (sinceU tr sn c)))) := s5.trans (Same.new nS)
      have nS0 : H S = none := s5.free nS
      have W6 := W.same s6
      refine ⟨.ref ww, rfl, ww, _, rfl, DPut.k (k := .inr "since") W6.hw (small1000 (by show 4 ≤ 1000; decide)), ?_⟩
      rw [wk_put]
      have wS : ww ≠ S := ne_of_none W.hw nS0
      subst etr
      refine q _ S ((Same.ku s6).trans Ku.at) nS0 ⟨upd_same, ?_, ?_, ?_, W.wu, ?_⟩
      · rw [upd_ne (ne_of W6.hg W6.hw (by intro z; cases z))]; exact W6.hg
      · rw [upd_ne W.wu.symm]; exact W6.hu
      · rw [upd_ne wS.symm, upd_same]
      · exact (ne_of_none W.hu nS0).symm
end
end Kf

set_option Elab.async false
set_option linter.all false
set_option maxRecDepth 100000
set_option maxHeartbeats 2000000
namespace Kf
open PySem PySem.Spec PyProof.Rows L2 LamX NdefX
def seat0 (gs : List G) : Uses := seatU [] [] gs
def since0 (ps : List (Str × Str)) (gs : List G) : List (Str × Int) := sinceU (lawTr [] (seat0 gs) [] 0 ps gs) [] 0
section
variable {P : Program} {w : World} {K : PySem.W.Frag} {mg : Str → Option Value} {base : Heap}
def spFresh (K : PySem.W.Frag) : Sp := fun vs H Q _ => ∃ m kvs pa xs ps ga ys gs, vs = [.ref m] ∧ H m = some (.dK kvs) ∧ valV kvs (.inr "parts") = some (.ref pa) ∧ valV kvs (.inr "gates") = some (.ref ga) ∧ Sq K H pa xs ∧ Each (PartAt K H) xs ps ∧ Sq K H ga ys ∧ Each (GateAt K H) ys gs ∧ TellOk ps (seat0 gs) gs ∧ (∀ n ps, G.spare n ps ∈ gs → ps.length ≤ 500) ∧
  ∀ H' ww g u s, Same H H' → H ww = none → H g = none → H u = none → H s = none → WAt H' ww g u s 0 [] (seat0 gs) (since0 ps gs) → Q (.ref ww) H'
theorem ok_law_fresh {f : Addr} {fd : FuncData} (F : L2.Fun K "_law_fresh" "_law_fresh" s__law_fresh f fd) (T : Nm mg) (C__law_seat : Cal P w K mg base 1 "_law_seat" ["m", "w"] (spSeat K)) (C__law_closed : Cal P w K mg base 3 "_law_closed" ["m", "w"] (spClosed K)) : FnOk P w K mg base CX0 4 f fd ["m"] (spFresh K) := by
  refine F.ok sc__law_fresh (fun vs H Q E h => ?_) (fun cdv A outer s H vs Q E hr h => ?_)
  · obtain ⟨m, kvs, pa, xs, ps, ga, ys, gs, rfl, _⟩ := h
    rfl
  · obtain ⟨m, kvs, pa, xs, ps, ga, ys, gs, rfl, hm, hpa, hga, ha, hea, hb, heb, ok, hpl, q⟩ := h
    have hu := hu_of hr
    refine ⟨_, (pss_cons (ps_set (i := 1) sc__law_fresh.nd rfl (.inl rfl) (pe_disp (pps_cons pe_str (pe_lst pa_nil) (pps_cons pe_str pe_dnewK (pps_cons pe_str pe_dnewK (pps_cons pe_str pe_int pps_nil)))) (by rfl) (by rfl) (fun z => by cases z) (by decide)))
 (pss_cons (ps_expr (pe_cal C__law_seat (by decide) hr (by rfl) (pa_cons (pv 0) (pa_cons (pv 1) pa_nil))))
 (pss_cons (ps_expr (pe_cal C__law_closed (by decide) hr (by rfl) (pa_cons (pv 0) (pa_cons (pv 1) pa_nil))))
 (pss_one (ps_ret (pv 1)))))), ?_⟩
    refine fun ww nw => ⟨Nat.zero_le _, fun g ng => ?_⟩
    intro u nu s' ns
    have s1 : Same H (upd H ww (.dK [])) := Same.new nw
    have s2 := s1.trans (Same.new (o := .lst []) ng)
    have s3 := s2.trans (Same.new (o := .dK []) nu)
    have s4 := s3.trans (Same.new (o := .dK []) ns)
    have hw1 : (upd H ww (.dK [])) ww = some (.dK []) := upd_same
    have wg : ww ≠ g := ne_of_none hw1 ng
    have hw2 : (upd (upd H ww (.dK [])) g (.lst [])) ww = some (.dK []) := by rw [upd_ne wg]; exact hw1
    have wu : ww ≠ u := ne_of_none hw2 nu
    have hw3 : (upd (upd (upd H ww (.dK [])) g (.lst [])) u (.dK [])) ww = some (.dK []) := by rw [upd_ne wu]; exact hw2
    have ws : ww ≠ s' := ne_of_none hw3 ns
    have gu : g ≠ u := ne_of_none upd_same nu
    have hg3 : (upd (upd (upd H ww (.dK [])) g (.lst [])) u (.dK [])) g = some (.lst []) := by rw [upd_ne gu, upd_same]
    have gs' : g ≠ s' := ne_of_none hg3 ns
    have us' : u ≠ s' := ne_of_none upd_same ns
    have nw0 := nw
    have ng0 := s1.free ng
    have nu0 := s2.free nu
    have ns0 := s3.free ns
    refine ⟨by rw [upd_ne ws]; exact hw3, [(.inr "gone", .ref g), (.inr "uses", .ref u), (.inr "since", .ref s'), (.inr "count", .int 0)], rfl, by show 4 ≤ 15; decide, ?_⟩
    have em : mergeK [] [((.inr "gone" : Key), V.ref g), (.inr "uses", .ref u), (.inr "since", .ref s'), (.inr "count", .int 0)] = wkv g u s' 0 := by with_unfolding_all rfl
    rw [em]
    obtain ⟨H5, e5⟩ : ∃ H5, H5 = upd (upd (upd (upd (upd H ww (.dK [])) g (.lst [])) u (.dK [])) s' (.dK [])) ww (.dK (wkv g u s' 0)) := ⟨_, rfl⟩
    have s5 : Same H H5 := by rw [e5]; exact Same.at s4 nw
    have W5 : WAt H5 ww g u s' 0 [] [] [] := by
      rw [e5]
      exact ⟨upd_same, by rw [upd_ne wg.symm, upd_ne gs']; exact hg3, by rw [upd_ne wu.symm, upd_ne us', upd_same]; rfl, by rw [upd_ne ws.symm, upd_same]; rfl, wu, us'.symm⟩
    rw [← e5]
    have gl := ok.gl
    refine ⟨.ref m, rfl, .ref ww, rfl, m, ww, kvs, ga, ys, gs, g, u, s', 0, [], [], [], rfl, s5 _ _ hm, hga, ne_of_none hm nu0, Same.sq s5 hb, heb.imp fun _ _ r => GateAt.kt (Same.kt s5) r, W5, by simp; omega, by simp, hpl, fun H6 k6 W6 => ?_⟩
    have s6 : Same H H6 := fun b o e => k6 _ _ (s5 _ _ e) (ne_of_none e nu0)
    refine ⟨.ref m, rfl, .ref ww, rfl, m, ww, kvs, pa, xs, ps, ga, ys, gs, g, u, s', 0, [], seat0 gs, [], rfl, s6 _ _ hm, hpa, hga, Same.sq s6 ha, hea.imp fun _ _ r => PartAt.kt (Same.kt s6) r, Same.sq s6 hb, heb.imp fun _ _ r => GateAt.kt (Same.kt s6) r, W6, ok, fun H7 s7 k7 n7 W7 => ?_⟩
    have sm7 : Same H H7 := fun b o e => k7 _ _ (s6 _ _ e) (ne_of_none e nw0)
    exact ⟨.ref ww, rfl, q H7 ww g u s7 sm7 nw0 ng0 nu0 (s6.free n7) W7⟩
end
end Kf

set_option Elab.async false
set_option linter.all false
set_option maxRecDepth 100000
set_option maxHeartbeats 2000000
namespace Kf
open PySem PySem.Spec PyProof.Rows L2 LamX NdefX
/-! ## the two accounts of the beginning agree -/
def spareN : G → Option Str
  | .spare n _ => some n
  | _ => none
def spares (gs : List G) : List Str := gs.filterMap spareN
def core1 (acc : Uses) : G → Uses
  | .spare n ps => acc ++ [(n, (ps.filter fun p => !decide (p ∈ acc.map (·.2))).headD emptyS)]
  | _ => acc
/-- the keys so far and those to come differ -/
def Dis (acc : Uses) (gs : List G) : Prop := (acc.map (·.1) ++ spares gs).Nodup
def Full (gs : List G) : Prop := ∀ n ps, G.spare n ps ∈ gs → ∀ p ∈ ps, p ≠ emptyS
theorem setA_new {l : Uses} {n x : Str} (h : ¬ n ∈ l.map (·.1)) : setA l n x = l ++ [(n, x)] := by
  unfold setA
  rw [if_neg]
  intro e
  obtain ⟨p, hp, h2⟩ := List.any_eq_true.mp e
  exact h (List.mem_map.mpr ⟨p, hp, of_decide_eq_true h2⟩)
theorem map_no {l : Uses} {n x : Str} (h : ¬ n ∈ l.map (·.1)) : l.map (fun p => if p.1 = n then (p.1, x) else p) = l := by
  have e : ∀ p ∈ l, (if p.1 = n then (p.1, x) else p) = p := fun p hp => if_neg fun e => h (List.mem_map.mpr ⟨p, hp, e⟩)
  exact (List.map_congr_left e).trans (List.map_id' l)
theorem setA_mid {a b : Uses} {n x y : Str} (h1 : ¬ n ∈ a.map (·.1)) (h2 : ¬ n ∈ b.map (·.1)) : setA (a ++ (n, y) :: b) n x = a ++ (n, x) :: b := by
  unfold setA
  rw [if_pos (by simp), List.map_append, List.map_cons, map_no h1, map_no h2, if_pos rfl]
theorem getA_new {l : Uses} {n : Str} (h : ¬ n ∈ l.map (·.1)) : getA l n = none := by
  unfold getA
  cases e : l.find? fun p => decide (p.1 = n) with
  | none => rfl
  | some p =>
    have h1 := List.mem_of_find?_eq_some e
    have h2 := List.find?_some e
    exact absurd (List.mem_map.mpr ⟨p, h1, by simpa using h2⟩) h
theorem getA_mid {a b : Uses} {n y : Str} (h1 : ¬ n ∈ a.map (·.1)) : getA (a ++ (n, y) :: b) n = some y := by
  unfold getA
  have e : a.find? (fun p => decide (p.1 = n)) = none := List.find?_eq_none.mpr fun p hp => by
    simp only [decide_eq_true_eq]
    exact fun e => h1 (List.mem_map.mpr ⟨p, hp, e⟩)
  rw [List.find?_append, e]
  simp
theorem freeOf_core {us acc : Uses} {ps : List Str} (hp : ∀ p ∈ ps, p ≠ emptyS) (h : ∀ x, x ≠ emptyS → (x ∈ us.map (·.2) ↔ x ∈ acc.map (·.2))) : freeOf [] us ps = ps.filter fun p => !decide (p ∈ acc.map (·.2)) := by
  unfold freeOf
  refine List.filter_congr fun p hpp => ?_
  have e := h p (hp p hpp)
  by_cases h2 : p ∈ acc.map (·.2)
  · simp [h2, e.mpr h2]
  · have h3 : ¬ p ∈ us.map (·.2) := fun z => h2 (e.mp z)
    simp [h2, h3]
theorem Dis.spare {acc : Uses} {n : Str} {ps : List Str} {r : List G} {v : Str} (h : Dis acc (.spare n ps :: r)) : ¬ n ∈ acc.map (·.1) ∧ ¬ n ∈ spares r ∧ Dis (acc ++ [(n, v)]) r := by
  have h' : (acc.map (·.1) ++ n :: spares r).Nodup := h
  have h1 := List.nodup_append.mp h'
  have h2 := List.nodup_cons.mp h1.2.1
  refine ⟨fun z => h1.2.2 n z n (List.mem_cons_self ..) rfl, h2.1, ?_⟩
  unfold Dis
  rw [List.map_append, List.append_assoc]
  exact h'
theorem seat_core : ∀ (gs : List G) (acc : Uses), Dis acc gs → Full gs → seatU [] acc gs = gs.foldl core1 acc
  | [], _, _, _ => rfl
  | g :: r, acc, hd, hf => by
    have hfr : Full r := fun n ps h => hf n ps (List.mem_cons_of_mem _ h)
    cases g with
    | spare n ps =>
      have h123 := fun v => Dis.spare (v := v) hd
      have h1 := (h123 emptyS).1
      have h3 := fun v => (h123 v).2.2
      have hp := hf n ps (List.mem_cons_self ..)
      have e1 : seat1 [] acc (.spare n ps) = core1 acc (.spare n ps) := by
        show (if (getA acc n).getD emptyS = emptyS ∨ (getA acc n).getD emptyS ∈ [] then setA (setA acc n emptyS) n ((freeOf [] (setA acc n emptyS) ps).headD emptyS) else acc) = _
        rw [if_pos (.inl (by rw [getA_new h1]; rfl)), setA_new h1, setA_mid h1 (by simp), freeOf_core (acc := acc) hp]
        · rfl
        · intro x hx
          rw [List.map_append, List.mem_append]
          simp [hx]
      show seatU [] (seat1 [] acc (.spare n ps)) r = r.foldl core1 (core1 acc (.spare n ps))
      rw [e1]
      exact seat_core r _ (h3 _) hfr
    | all n ins => exact seat_core r acc hd hfr
    | any n ins => exact seat_core r acc hd hfr
    | least n m ins => exact seat_core r acc hd hfr
    | before n x y => exact seat_core r acc hd hfr
theorem take_core : ∀ (gs : List G) (acc : Uses), Dis acc gs → Full gs → takeU [] (acc ++ (spares gs).map fun n => (n, emptyS)) gs = gs.foldl core1 acc
  | [], acc, _, _ => by simp [takeU, spares]
  | g :: r, acc, hd, hf => by
    have hfr : Full r := fun n ps h => hf n ps (List.mem_cons_of_mem _ h)
    cases g with
    | spare n ps =>
      have h123 := fun v => Dis.spare (v := v) hd
      have h1 := (h123 emptyS).1
      have h2 := (h123 emptyS).2.1
      have h3 := fun v => (h123 v).2.2
      have hp := hf n ps (List.mem_cons_self ..)
      have h2' : ¬ n ∈ ((spares r).map fun n => (n, emptyS)).map (·.1) := by
        rw [List.map_map]
        simpa using h2
      have es : (spares (.spare n ps :: r)).map (fun n => (n, emptyS)) = (n, emptyS) :: (spares r).map fun n => (n, emptyS) := rfl
      have e1 : take1 [] (acc ++ (n, emptyS) :: (spares r).map fun n => (n, emptyS)) (.spare n ps) = core1 acc (.spare n ps) ++ (spares r).map fun n => (n, emptyS) := by
        show (if (getA _ n).getD emptyS = emptyS ∨ (getA _ n).getD emptyS ∈ [] then setA _ n ((freeOf [] _ ps).headD emptyS) else _) = _
        rw [if_pos (.inl (by rw [getA_mid h1]; rfl)), setA_mid h1 h2', freeOf_core (acc := acc) hp]
        · show _ = (acc ++ [(n, _)]) ++ _
          rw [List.append_assoc]
          rfl
        · intro x hx
          rw [List.map_append, List.mem_append, List.map_cons, List.mem_cons, List.map_map]
          constructor
          · rintro (h | h | h)
            · exact h
            · exact absurd h hx
            · obtain ⟨y, _, e⟩ := List.mem_map.mp h
              exact absurd e.symm hx
          · exact .inl
      show takeU [] (take1 [] (acc ++ (spares (.spare n ps :: r)).map fun n => (n, emptyS)) (.spare n ps)) r = r.foldl core1 (core1 acc (.spare n ps))
      rw [es, e1]
      exact take_core r _ (h3 _) hfr
    | all n ins => exact take_core r acc hd hfr
    | any n ins => exact take_core r acc hd hfr
    | least n m ins => exact take_core r acc hd hfr
    | before n x y => exact take_core r acc hd hfr
theorem init_core : ∀ (gs : List G) (acc : Uses), Dis acc gs → gs.foldl init1 acc = acc ++ (spares gs).map fun n => (n, emptyS)
  | [], acc, _ => by simp [spares]
  | g :: r, acc, hd => by
    cases g with
    | spare n ps =>
      obtain ⟨h1, _, h3⟩ := Dis.spare (v := emptyS) hd
      show r.foldl init1 (setA acc n emptyS) = _
      rw [setA_new h1, init_core r _ h3, List.append_assoc]
      rfl
    | all n ins => exact init_core r acc hd
    | any n ins => exact init_core r acc hd
    | least n m ins => exact init_core r acc hd
    | before n x y => exact init_core r acc hd
theorem spares_sub : ∀ gs : List G, (spares gs).Sublist (gs.map G.name)
  | [] => List.Sublist.refl _
  | g :: r => by
    cases g with
    | spare n ps => exact List.Sublist.cons_cons n (spares_sub r)
    | all n ins => exact List.Sublist.cons n (spares_sub r)
    | any n ins => exact List.Sublist.cons n (spares_sub r)
    | least n m ins => exact List.Sublist.cons n (spares_sub r)
    | before n x y => exact List.Sublist.cons n (spares_sub r)
theorem first_eq {gs : List G} (nd : (gs.map G.name).Nodup) (hf : Full gs) : seat0 gs = firstU gs := by
  have hd : Dis [] gs := nd.sublist (spares_sub gs)
  unfold seat0 firstU initU
  rw [init_core gs [] hd, seat_core gs [] hd hf, take_core gs [] hd hf]
theorem lawTr_eq {us : Uses} {ps : List (Str × Str)} {gs : List G} : lawTr [] us [] 0 ps gs = tellM noBefore [] us ps gs := by
  have e : tell1 (lawBf us [] 0) us = tell1 noBefore us := by
    funext tr g
    unfold tell1
    rw [truth1_law]
    cases g with
    | before n x y =>
      show setA tr n (lookT tr x && (lookT tr y && decide ((0 : Int) < 0))) = setA tr n false
      simp
    | _ => rfl
  unfold lawTr tellM
  rw [e]
end Kf

set_option Elab.async false
set_option linter.all false
set_option maxRecDepth 100000
set_option maxHeartbeats 2000000
namespace Kf
open PySem PySem.Spec PyProof.Rows L2 LamX NdefX TL
/-! ## plants of drawn words -/
def GP (labels : List Str) (gs : List G) : Prop := ∀ j g, gs[j]? = some g → GateOk labels (labels ++ (gs.take j).map G.name) g
theorem GP.nil {labels : List Str} : GP labels [] := fun j g h => by simp at h
theorem GP.snoc {labels : List Str} {gs : List G} {g : G} (h : GP labels gs) (hg : GateOk labels (labels ++ gs.map G.name) g) : GP labels (gs ++ [g]) := fun j x hx => by
  by_cases hj : j < gs.length
  · rw [List.getElem?_append_left hj] at hx
    rw [List.take_append_of_le_length (Nat.le_of_lt hj)]
    exact h j x hx
  · rw [List.getElem?_append_right (by omega)] at hx
    have e : j - gs.length = 0 := by
      by_cases h0 : j - gs.length = 0
      · exact h0
      · rw [List.getElem?_eq_none (by simp; omega)] at hx
        cases hx
    have ej : j = gs.length := by omega
    subst ej
    rw [e] at hx
    cases hx
    rw [List.take_left]
    exact hg
theorem choice_le {l names : List Str} (h : ChoiceOk l names) : l.length ≤ names.length := pigeon h.nd h.sub
theorem GP.at {labels : List Str} {gs : List G} (h : GP labels gs) {g : G} (hg : g ∈ gs) : ∃ names, GateOk labels names g := by
  obtain ⟨i, hi⟩ := List.mem_iff_getElem?.mp hg
  exact ⟨_, h i g hi⟩
theorem GP.pool {labels : List Str} {gs : List G} (h : GP labels gs) : ∀ n ps, G.spare n ps ∈ gs → ps.length ≤ labels.length := fun n ps hm => by
  obtain ⟨names, ok⟩ := h.at hm
  exact choice_le ok.ins
theorem GP.full {labels : List Str} {gs : List G} (h : GP labels gs) (hl : ∀ x ∈ labels, NameOk x) : Full gs := fun n ps hm p hp e => by
  obtain ⟨names, ok⟩ := h.at hm
  have h1 := (hl p (ChoiceOk.sub ok.ins p hp)).lo
  rw [e] at h1
  exact absurd h1 (by decide +kernel)
theorem tellOk_of {ps : List (Str × Str)} {gs : List G} (h : GP (ps.map (·.1)) gs) (h1 : ps.length ≤ 400) (h2 : gs.length ≤ 400) {us : Uses} (hu : SpareIn us gs) : TellOk ps us gs := by
  refine ⟨fun i g hg => ?_, h1, h2⟩
  have ok := (h i g hg).ins
  have hm := List.mem_of_getElem? hg
  cases g with
  | all n ins => exact ⟨ChoiceOk.sub ok, ChoiceOk.len ok⟩
  | any n ins => exact ⟨ChoiceOk.sub ok, ChoiceOk.len ok⟩
  | least n m ins => exact ⟨ChoiceOk.sub ok.1, ChoiceOk.len ok.1⟩
  | before n x y => exact ⟨ok.sub x (by simp), ok.sub y (by simp)⟩
  | spare n qs => exact hu n qs hm
theorem firstU_spare (gs : List G) : SpareIn (firstU gs) gs := fun n ps h => by
  have e := takeU_keys (fl := []) (gs := gs) (us := initU gs) (initU_spare gs)
  have e2 := any_keys e n
  show ((takeU [] (initU gs) gs).any fun p => decide (p.1 = n)) = true
  rw [e2]
  exact initU_spare gs n ps h
theorem getA_setA {α : Type} {l : List (Str × α)} {n m : Str} {x : α} : getA (setA l n x) m = if m = n then some x else getA l m := by
  induction l with
  | nil =>
    by_cases h : m = n
    · subst h
      simp [setA, getA]
    · simp [setA, getA, h, Ne.symm h]
  | cons p r ih =>
    have key : ∀ (l : List (Str × α)), (l.any fun p => decide (p.1 = n)) = true → getA (l.map fun p => if p.1 = n then (p.1, x) else p) m = if m = n then some x else getA l m := by
      intro l
      induction l with
      | nil => intro h; cases h
      | cons p r ih2 =>
        intro h
        rw [List.map_cons]
        by_cases hp : p.1 = n
        · rw [if_pos hp]
          by_cases hm : m = n
          · subst hm
            simp [getA, hp]
          · rw [if_neg hm]
            have h1 : ¬ p.1 = m := fun e => hm (e.symm.trans hp)
            have e1 : getA ((p.1, x) :: r.map fun p => if p.1 = n then (p.1, x) else p) m = getA (r.map fun p => if p.1 = n then (p.1, x) else p) m := by simp [getA, h1]
            have e2 : getA (p :: r) m = getA r m := by simp [getA, h1]
            rw [e1, e2]
            by_cases hr : (r.any fun p => decide (p.1 = n)) = true
            · rw [ih2 hr, if_neg hm]
            · have : r.map (fun p => if p.1 = n then (p.1, x) else p) = r := by
                have e : ∀ q ∈ r, (if q.1 = n then (q.1, x) else q) = q := fun q hq => if_neg fun e => hr (List.any_eq_true.mpr ⟨q, hq, decide_eq_true e⟩)
                exact (List.map_congr_left e).trans (List.map_id' r)
              rw [this]
        · rw [if_neg hp]
          have hr : (r.any fun p => decide (p.1 = n)) = true := by
            rw [List.any_cons, decide_eq_false hp, Bool.false_or] at h
            exact h
          by_cases hpm : p.1 = m
          · have hm : ¬ m = n := fun e => hp (hpm.trans e)
            rw [if_neg hm]
            simp [getA, hpm]
          · have e1 : getA (p :: r.map fun p => if p.1 = n then (p.1, x) else p) m = getA (r.map fun p => if p.1 = n then (p.1, x) else p) m := by simp [getA, hpm]
            have e2 : getA (p :: r) m = getA r m := by simp [getA, hpm]
            rw [e1, e2, ih2 hr]
    unfold setA
    by_cases h : ((p :: r).any fun p => decide (p.1 = n)) = true
    · rw [if_pos h, key _ h]
    · rw [if_neg h]
      unfold getA
      rw [List.find?_append]
      by_cases hm : m = n
      · subst hm
        have e : (p :: r).find? (fun q => decide (q.1 = m)) = none := List.find?_eq_none.mpr fun q hq hq2 => h (List.any_eq_true.mpr ⟨q, hq, hq2⟩)
        rw [e, if_pos rfl]
        simp
      · rw [if_neg hm]
        have e : [(n, x)].find? (fun q => decide (q.1 = m)) = none := by simp [Ne.symm hm]
        rw [e]
        cases (p :: r).find? (fun q => decide (q.1 = m)) <;> rfl
theorem look_set {tr : Tr} {n m : Str} {b : Bool} : lookT (setA tr n b) m = if m = n then b else lookT tr m := by
  unfold lookT
  rw [getA_setA]
  split <;> rfl
theorem look_parts {ps : List (Str × Str)} {m : Str} : lookT (partsTr [] ps) m = false := by
  have key : ∀ (ps : List (Str × Str)) (tr : Tr), lookT tr m = false → lookT (ps.foldl (part1 []) tr) m = false := by
    intro ps
    induction ps with
    | nil => exact fun tr h => h
    | cons p r ih =>
      intro tr h
      refine ih _ ?_
      show lookT (setA tr p.1 (decide (p.1 ∈ []))) m = false
      rw [look_set]
      split
      · simp
      · exact h
  exact key ps [] rfl
theorem look_tell {bf : G → Tr → Bool} {us : Uses} {m : Str} : ∀ (gs : List G) (tr : Tr), ¬ m ∈ gs.map G.name → lookT (gs.foldl (tell1 bf us) tr) m = lookT tr m
  | [], tr, _ => rfl
  | g :: r, tr, h => by
    have h1 : ¬ m = g.name := fun e => h (by rw [e]; exact List.mem_cons_self ..)
    have h2 : ¬ m ∈ r.map G.name := fun e => h (List.mem_cons_of_mem _ e)
    rw [List.foldl_cons, look_tell r _ h2]
    unfold tell1
    rw [look_set, if_neg h1]
/-- a last gate of all parts is false at the beginning -/
theorem all_false {us : Uses} {ps : List (Str × Str)} {gs : List G} {tp : Str} (h1 : ∀ x ∈ ps.map (·.1), ¬ x ∈ gs.map G.name) (h2 : ps ≠ []) : lookT (tellM noBefore [] us ps (gs ++ [.all tp (ps.map (·.1))])) tp = false := by
  unfold tellM
  rw [List.foldl_append]
  show lookT (tell1 noBefore us (gs.foldl (tell1 noBefore us) (partsTr [] ps)) (.all tp (ps.map (·.1)))) tp = false
  have e : tell1 noBefore us (gs.foldl (tell1 noBefore us) (partsTr [] ps)) (.all tp (ps.map (·.1))) = setA (gs.foldl (tell1 noBefore us) (partsTr [] ps)) tp ((ps.map (·.1)).all (lookT (gs.foldl (tell1 noBefore us) (partsTr [] ps)))) := rfl
  rw [e, look_set, if_pos rfl]
  cases ps with
  | nil => exact absurd rfl h2
  | cons p r =>
    rw [List.map_cons, List.all_cons, look_tell gs _ (h1 p.1 (List.mem_cons_self ..)), look_parts]
    rfl
theorem notin_take {l : List Str} (nd : l.Nodup) {k : Nat} (hk : k < l.length) : ¬ l[k] ∈ l.take k := fun hm => by
  obtain ⟨j, hj, e⟩ := List.mem_iff_getElem.mp hm
  rw [List.getElem_take] at e
  rw [List.length_take] at hj
  exact (List.pairwise_iff_getElem.mp nd) j k (by omega) hk (by omega) e
/-- the words of a plant: labels ahead, gates from the eighth on -/
theorem word_new {ws : List Str} (nd : ws.Nodup) (hl : ws.length = 16) {n t j : Nat} (hn : n ≤ 8) (ht : t ≤ j) (hj : j < 8) : ¬ ws[8 + j]'(by omega) ∈ ws.take n ++ (ws.drop 8).take t := fun hm => by
  refine notin_take nd (k := 8 + j) (by omega) ?_
  rcases List.mem_append.mp hm with h | h
  · exact (List.take_subset_take_left ws (by omega : n ≤ 8 + j)) h
  · have e : (ws.drop 8).take j = (ws.take (8 + j)).drop 8 := by rw [List.drop_take]; congr 1; omega
    have h2 : ws[8 + j]'(by omega) ∈ (ws.drop 8).take j := (List.take_subset_take_left _ ht) h
    rw [e] at h2
    exact List.mem_of_mem_drop h2
theorem words_nodup {ws : List Str} (nd : ws.Nodup) {n t : Nat} (hn : n ≤ 8) : (ws.take n ++ (ws.drop 8).take t).Nodup := by
  have e : ws = ws.take 8 ++ ws.drop 8 := (List.take_append_drop 8 ws).symm
  have s : (ws.take n ++ (ws.drop 8).take t).Sublist (ws.take 8 ++ ws.drop 8) := List.Sublist.append (List.take_sublist_take_left hn) (List.take_sublist ..)
  rw [← e] at s
  exact nd.sublist s
end Kf

set_option Elab.async false
set_option linter.all false
set_option maxRecDepth 100000
set_option maxHeartbeats 2000000
namespace Kf
open PySem PySem.Spec PyProof.Rows L2 LamX NdefX TL
def mkv (pa ca ga : Addr) : List (Key × V) := [(.inr "parts", .ref pa), (.inr "causes", .ref ca), (.inr "gates", .ref ga)]
def mkv4 (pa ca ga : Addr) (tp : V) : List (Key × V) := [(.inr "parts", .ref pa), (.inr "causes", .ref ca), (.inr "gates", .ref ga), (.inr "top", tp)]
section
variable {pa ca ga : Addr} {tp : V}
theorem mk_p : valV (mkv pa ca ga) (.inr "parts") = some (.ref pa) := by with_unfolding_all rfl
theorem mk_c : valV (mkv pa ca ga) (.inr "causes") = some (.ref ca) := by with_unfolding_all rfl
theorem mk_g : valV (mkv pa ca ga) (.inr "gates") = some (.ref ga) := by with_unfolding_all rfl
theorem mk_put : putK (mkv pa ca ga) (.inr "top") tp = mkv4 pa ca ga tp := by with_unfolding_all rfl
theorem mk4_p : valV (mkv4 pa ca ga tp) (.inr "parts") = some (.ref pa) := by with_unfolding_all rfl
theorem mk4_c : valV (mkv4 pa ca ga tp) (.inr "causes") = some (.ref ca) := by with_unfolding_all rfl
theorem mk4_g : valV (mkv4 pa ca ga tp) (.inr "gates") = some (.ref ga) := by with_unfolding_all rfl
theorem mk4_t : valV (mkv4 pa ca ga tp) (.inr "top") = some tp := by with_unfolding_all rfl
end
theorem gK {H : Hp} {m : Addr} {kvs : List (Key × V)} {k : Str} {v : V} (h : H m = some (.dK kvs)) (e : valV kvs (.inr k) = some v) : DGet H m (.str k) (some v) := by
  have q := DGet.k (k := .inr k) h
  rw [e] at q
  exact q
theorem Kp.free {d L p : Addr} {H H' : Hp} (k : Kp d L H H') (h : H' p = none) (n1 : p ≠ d) (n2 : p ≠ L) : H p = none := by
  cases e : H p with
  | none => rfl
  | some o =>
    rw [k p o e n1 n2] at h
    cases h
/-- what does not change while a plant is drawn -/
structure PStat (d L C : Addr) (H0 : Hp) (wa la m pa ca ga : Addr) : Prop where
  md : m ≠ d
  mL : m ≠ L
  paL : pa ≠ L
  caL : ca ≠ L
  gaL : ga ≠ L
  laL : la ≠ L
  waL : wa ≠ L
  caC : ca ≠ C
  gaC : ga ≠ C
  gp : ga ≠ pa
  gc : ga ≠ ca
  gl : ga ≠ la
  gw : ga ≠ wa
  cp : ca ≠ pa
  cl : ca ≠ la
  cw : ca ≠ wa
  nca : H0 ca = none
  nga : H0 ga = none
  nm : H0 m = none
structure PSt (K : PySem.W.Frag) (d L C : Addr) (H0 : Hp) (wa la m pa ca ga : Addr) (ws lab : List Str) (kvs : List (Key × V)) (xs : List V) (ps : List (Str × Str)) (zs : List V) (cs : List (Str × List Str)) (ys : List V) (gs : List G) (H : Hp) : Prop where
  D : Dr H d L C
  kp : Kp d L H0 H
  hm : H m = some (.dK kvs)
  hpa : H pa = some (.lst xs)
  hea : Each (PartAt K H) xs ps
  hca : H ca = some (.lst zs)
  hec : Each (CauseAt K H) zs cs
  hga : H ga = some (.lst ys)
  heg : Each (GateAt K H) ys gs
  hla : H la = some (.lst (sV lab))
  hwa : H wa = some (.lst (sV ws))
section
variable {K : PySem.W.Frag} {d L C : Addr} {H0 : Hp} {wa la m pa ca ga : Addr} {ws lab : List Str} {kvs : List (Key × V)} {xs : List V} {ps : List (Str × Str)} {zs : List V} {cs : List (Str × List Str)} {ys : List V} {gs : List G} {H H' : Hp}
theorem PSt.next (S : PSt K d L C H0 wa la m pa ca ga ws lab kvs xs ps zs cs ys gs H) (N : PStat d L C H0 wa la m pa ca ga) (k : Kp d L H H') (D' : Dr H' d L C) : PSt K d L C H0 wa la m pa ca ga ws lab kvs xs ps zs cs ys gs H' :=
  ⟨D', S.kp.trans k, k _ _ S.hm N.md N.mL, k.lst S.D N.paL S.hpa, S.hea.imp fun _ _ r => PartAt.kt (k.kt S.D) r, k.lst S.D N.caL S.hca, S.hec.imp fun _ _ r => CauseAt.kt (k.kt S.D) r, k.lst S.D N.gaL S.hga, S.heg.imp fun _ _ r => GateAt.kt (k.kt S.D) r, k.lst S.D N.laL S.hla, k.lst S.D N.waL S.hwa⟩
theorem PSt.same (S : PSt K d L C H0 wa la m pa ca ga ws lab kvs xs ps zs cs ys gs H) (N : PStat d L C H0 wa la m pa ca ga) (s : Same H H') : PSt K d L C H0 wa la m pa ca ga ws lab kvs xs ps zs cs ys gs H' := S.next N (Same.kp s) (S.D.same s)
theorem kt_lst {K : PySem.W.Frag} {H : Hp} {a : Addr} {l l' : List V} (h : H a = some (.lst l)) : KT K H (upd H a (.lst l')) := fun b xs hb => by
  rcases hb with (h2 | ⟨o, h2⟩) | h2
  · exact .inl (.inl (by rw [upd_ne (ne_of h2 h (by intro z; cases z))]; exact h2))
  · exact .inl (.inr ⟨o, by rw [upd_ne (ne_of h2 h (by intro z; cases z))]; exact h2⟩)
  · exact .inr h2
theorem PSt.gate (S : PSt K d L C H0 wa la m pa ca ga ws lab kvs xs ps zs cs ys gs H) (N : PStat d L C H0 wa la m pa ca ga) {ys' : List V} {gs' : List G} (he : Each (GateAt K H) ys' gs') : PSt K d L C H0 wa la m pa ca ga ws lab kvs xs ps zs cs ys' gs' (upd H ga (.lst ys')) := by
  have kt := kt_lst (K := K) (l' := ys') S.hga
  exact ⟨S.D.lst S.hga N.gaL N.gaC _, S.kp.at N.nga, by rw [upd_ne (ne_of S.hm S.hga (by intro z; cases z))]; exact S.hm, by rw [upd_ne N.gp.symm]; exact S.hpa, S.hea.imp fun _ _ r => PartAt.kt kt r, by rw [upd_ne N.gc.symm]; exact S.hca, S.hec.imp fun _ _ r => CauseAt.kt kt r, upd_same, he.imp fun _ _ r => GateAt.kt kt r,
    by rw [upd_ne N.gl.symm]; exact S.hla, by rw [upd_ne N.gw.symm]; exact S.hwa⟩
theorem PSt.cause (S : PSt K d L C H0 wa la m pa ca ga ws lab kvs xs ps zs cs ys gs H) (N : PStat d L C H0 wa la m pa ca ga) {zs' : List V} {cs' : List (Str × List Str)} (he : Each (CauseAt K H) zs' cs') : PSt K d L C H0 wa la m pa ca ga ws lab kvs xs ps zs' cs' ys gs (upd H ca (.lst zs')) := by
  have kt := kt_lst (K := K) (l' := zs') S.hca
  exact ⟨S.D.lst S.hca N.caL N.caC _, S.kp.at N.nca, by rw [upd_ne (ne_of S.hm S.hca (by intro z; cases z))]; exact S.hm, by rw [upd_ne N.cp.symm]; exact S.hpa, S.hea.imp fun _ _ r => PartAt.kt kt r, upd_same, he.imp fun _ _ r => CauseAt.kt kt r, by rw [upd_ne N.gc]; exact S.hga, S.heg.imp fun _ _ r => GateAt.kt kt r,
    by rw [upd_ne N.cl.symm]; exact S.hla, by rw [upd_ne N.cw.symm]; exact S.hwa⟩
end
structure M4 (K : PySem.W.Frag) (d L : Addr) (H : Hp) (m : Addr) (ps : List (Str × Str)) (cs : List (Str × List Str)) (gs : List G) (tp : Str) : Prop where
  ex : ∃ pa ca ga xs zs ys, H m = some (.dK (mkv4 pa ca ga (.str tp))) ∧ H pa = some (.lst xs) ∧ Each (PartAt K H) xs ps ∧ H ca = some (.lst zs) ∧ Each (CauseAt K H) zs cs ∧ H ga = some (.lst ys) ∧ Each (GateAt K H) ys gs ∧ m ≠ d ∧ pa ≠ L ∧ ca ≠ L ∧ ga ≠ L
section
variable {P : Program} {w : World} {K : PySem.W.Frag} {mg : Str → Option Value} {base : Heap}
def spPlantL (K : PySem.W.Frag) : Sp := fun vs H Q _ => ∃ d L C a b c, vs = [.ref d, .int (a : Nat), .int (b : Nat), .int (c : Nat)] ∧ Dr H d L C ∧ 1 ≤ a ∧ a ≤ 8 ∧ 1 ≤ b ∧ b ≤ 7 ∧ c ≤ 4 ∧
  ∀ H' m ps cs gs tp, Dr H' d L C → Kp d L H H' → H m = none → M4 K d L H' m ps cs gs tp → PlantOk ps gs cs tp → gs.length ≤ b → (∀ x ∈ ps.map (·.1) ++ gs.map G.name, WordOk x) → Q (.ref m) H'
theorem Each.snoc {α : Type} {R : V → α → Prop} {xs : List V} {l : List α} {x : V} {p : α} (h : Each R xs l) (hx : R x p) : Each R (xs ++ [x]) (l ++ [p]) := by
  refine ⟨by simp [h.1], fun i y hy => ?_⟩
  by_cases hi : i < xs.length
  · rw [List.getElem?_append_left hi] at hy
    obtain ⟨q, hq, r⟩ := h.2 i y hy
    exact ⟨q, by rw [List.getElem?_append_left (by rw [← h.1]; exact hi)]; exact hq, r⟩
  · rw [List.getElem?_append_right (by omega)] at hy
    have e : i - xs.length = 0 := by
      by_cases h0 : i - xs.length = 0
      · exact h0
      · rw [List.getElem?_eq_none (by simp; omega)] at hy
        cases hy
    rw [e] at hy
    cases hy
    refine ⟨p, ?_, hx⟩
    have e2 : i = l.length := by have := h.1; omega
    subst e2
    simp
theorem Each.nil {α : Type} {R : V → α → Prop} : Each R [] ([] : List α) := ⟨rfl, fun i x h => by simp at h⟩
theorem Each.init {α : Type} {R : V → α → Prop} {xs : List V} {l : List α} {x : V} {p : α} (h : Each R (xs ++ [x]) (l ++ [p])) : Each R xs l := by
  have hl : xs.length = l.length := by
    have := h.1
    simpa using this
  refine ⟨hl, fun i y hy => ?_⟩
  have hi : i < xs.length := (List.getElem?_eq_some_iff.mp hy).1
  obtain ⟨q, hq, r⟩ := h.2 i y (by rw [List.getElem?_append_left hi]; exact hy)
  exact ⟨q, by rw [List.getElem?_append_left (by omega)] at hq; exact hq, r⟩
theorem ok_plantL {f : Addr} {fd : FuncData} (F : L2.Fun K "_law_plant" "_law_plant" s__law_plant f fd) (T : Nm mg) (C__law_take : Cal P w K mg base 1 "_law_take" ["draw", "size"] spTake) (C__law_pick : Cal P w K mg base 2 "_law_pick" ["draw", "some"] (spPick2 K)) (C__law_words : Cal P w K mg base 3 "_law_words" ["draw", "many"] spWords)
    (C__law_some : Cal P w K mg base 3 "_law_some" ["draw", "labels", "bound"] (spSome K)) (C__law_gate : Cal P w K mg base 4 "_law_gate" ["draw", "name", "pieces", "labels"] (spGate K)) (C__law_fresh : Cal P w K mg base 4 "_law_fresh" ["m"] (spFresh K)) : FnOk P w K mg base CX0 5 f fd ["draw", "most_parts", "most_gates", "most_causes"] (spPlantL K) := by
  refine F.ok sc__law_plant (fun vs H Q E h => ?_) (fun cdv A outer s H vs Q E hr h => ?_)
  · obtain ⟨d, L, C, a, b, c, rfl, _⟩ := h
    rfl
  · obtain ⟨d, L, C, ma, mb, mc, rfl, D, a1, a2, b1, b2, c2, q⟩ := h
    have hu := hu_of hr
    refine ⟨_, (pss_cons (ps_set (i := 4) sc__law_plant.nd rfl (.inl rfl) (pe_cal C__law_words (by decide) hr (by rfl) (pa_cons (pv 0) (pa_cons pe_int pa_nil))))
 (pss_cons (ps_set (i := 5) sc__law_plant.nd rfl (.inl rfl) (pe_slice sl_list (pv 4) po_none (po_some (pe_op op_add pe_int (pe_cal C__law_take (by decide) hr (by rfl) (pa_cons (pv 0) (pa_cons (pv 1) pa_nil)))))))
 (pss_cons (ps_set (i := 6) sc__law_plant.nd rfl (.inl rfl) (pe_disp (pps_cons pe_str (pe_lc (own := [("name", 10)]) (g := gName 10) (by rfl) sc__law_plant.nd (pi_list (pv 5)) (blkOk_by (own := [("name", 10)]) (N := ["draw", "most_parts", "most_gates", "most_causes", "words", "labels", "m", "k", "known", "inputs", "name", "gate"]) (sc := defScope s__law_plant) (by decide +kernel)) (fun _ _ _ _ _ => pg_name (i := 10) sc__law_plant.nd rfl (.inl rfl)) (fun _ _ _ _ _ => pts_nil) (fun _ _ _ _ _ => (pe_tup (pa_cons (pv 10) (pa_cons (pe_cal C__law_pick (by decide) hr (by rfl) (pa_cons (pv 0) (pa_cons (pe_lst (pa_cons pe_str (pa_cons pe_str (pa_cons pe_str pa_nil)))) pa_nil))) pa_nil))))) (pps_cons pe_str (pe_lst pa_nil) (pps_cons pe_str (pe_lst pa_nil) pps_nil))) (by rfl) (by rfl) (fun z => by cases z) (by decide)))
 (pss_cons (ps_for PassesOwn.never rfl (pi_range1 rfl T.n_range (pa_cons (pe_cal C__law_take (by decide) hr (by rfl) (pa_cons (pv 0) (pa_cons (pv 2) pa_nil))) pa_nil)) (pg_name (i := 7) sc__law_plant.nd rfl (.inl rfl))
 (pss_one (ps_expr (pe_bm PySem.F.plainAttrs_list PySem.F.slot_list_append PySem.F.type_list_append mt_append (pe_dget hu (pv 6) pe_str (fun _ _ => rfl)) (pa_cons (pe_cal C__law_gate (by decide) hr (by rfl) (pa_cons (pv 0) (pa_cons (pe_ix ix_list (pv 4) (pe_op op_add pe_int (pv 7)) (fun _ _ => rfl)) (pa_cons (pv 5) (pa_cons (pe_op op_cat (pv 5) (pe_lc (own := [("gate", 11)]) (g := gName 11) (by rfl) sc__law_plant.nd (pi_list (pe_dget hu (pv 6) pe_str (fun _ _ => rfl))) (blkOk_by (own := [("gate", 11)]) (N := ["draw", "most_parts", "most_gates", "most_causes", "words", "labels", "m", "k", "known", "inputs", "name", "gate"]) (sc := defScope s__law_plant) (by decide +kernel)) (fun _ _ _ _ _ => pg_name (i := 11) sc__law_plant.nd rfl (.inl rfl)) (fun _ _ _ _ _ => pts_nil) (fun _ _ _ _ _ => (pe_ix (ix_sqK (K := K) rfl) (pv 11) pe_int (fun _ _ => rfl))))) pa_nil))))) pa_nil)))))
 (pss_cons (ps_set (i := 8) sc__law_plant.nd rfl (.inl rfl) (pe_op op_cat (pv 5) (pe_lc (own := [("gate", 11)]) (g := gName 11) (by rfl) sc__law_plant.nd (pi_list (pe_dget hu (pv 6) pe_str (fun _ _ => rfl))) (blkOk_by (own := [("gate", 11)]) (N := ["draw", "most_parts", "most_gates", "most_causes", "words", "labels", "m", "k", "known", "inputs", "name", "gate"]) (sc := defScope s__law_plant) (by decide +kernel)) (fun _ _ _ _ _ => pg_name (i := 11) sc__law_plant.nd rfl (.inl rfl)) (fun _ _ _ _ _ => pts_nil) (fun _ _ _ _ _ => (pe_ix (ix_sqK (K := K) rfl) (pv 11) pe_int (fun _ _ => rfl))))))
 (pss_cons (ps_set (i := 9) sc__law_plant.nd rfl (.inl rfl) (pe_cal C__law_some (by decide) hr (by rfl) (pa_cons (pv 0) (pa_cons (pv 8) (pa_cons pe_int pa_nil)))))
 (pss_cons (ps_expr (pe_bm PySem.F.plainAttrs_list PySem.F.slot_list_append PySem.F.type_list_append mt_append (pe_dget hu (pv 6) pe_str (fun _ _ => rfl)) (pa_cons (pe_tup (pa_cons (pe_ix ix_list (pv 4) pe_int (fun _ _ => rfl)) (pa_cons pe_str (pa_cons (pe_op op_add pe_int (pe_cal C__law_take (by decide) hr (by rfl) (pa_cons (pv 0) (pa_cons (pe_callB (call_lenK (K := K) rfl) (by rfl) T.n_len (by decide +kernel) (pa_cons (pv 9) pa_nil)) pa_nil)))) (pa_cons (pv 9) pa_nil))))) pa_nil)))
 (pss_cons (ps_for PassesOwn.never rfl (pi_range1 rfl T.n_range (pa_cons (pe_cal C__law_take (by decide) hr (by rfl) (pa_cons (pv 0) (pa_cons (pe_op op_add (pv 3) pe_int) pa_nil))) pa_nil)) (pg_name (i := 7) sc__law_plant.nd rfl (.inl rfl))
 (pss_one (ps_expr (pe_bm PySem.F.plainAttrs_list PySem.F.slot_list_append PySem.F.type_list_append mt_append (pe_dget hu (pv 6) pe_str (fun _ _ => rfl)) (pa_cons (pe_tup (pa_cons (pe_cal C__law_pick (by decide) hr (by rfl) (pa_cons (pv 0) (pa_cons (pv 8) pa_nil))) (pa_cons (pe_cal C__law_some (by decide) hr (by rfl) (pa_cons (pv 0) (pa_cons (pv 5) (pa_cons pe_int pa_nil)))) pa_nil))) pa_nil)))))
 (pss_cons (ps_dput hu (pv 6) pe_str (pe_ix ix_list (pv 4) pe_int (fun _ _ => rfl)) rfl)
 (pss_cons (ps_if (pt_cmp (pc_din hu (pe_ix ix_list (pv 4) pe_int (fun _ _ => rfl)) (pe_dget hu (pe_cal C__law_fresh (by decide) hr (by rfl) (pa_cons (pv 6) pa_nil)) pe_str (fun _ _ => rfl))) (by with_unfolding_all rfl))
 (pss_one (ps_asg (pe_tup (pa_cons (pe_ix ix_list (pv 4) pe_int (fun _ _ => rfl)) (pa_cons pe_str (pa_cons (pe_callTy (call_tupQ (K := K) rfl) (by rfl) T.n_tuple (by decide +kernel) (pa_cons (pv 5) pa_nil)) pa_nil)))) (pg_sub (pe_dget hu (pv 6) pe_str (fun _ _ => rfl)) (pe_un un_neg pe_int) set_list)))
 pss_nil)
 (pss_one (ps_ret (pv 6))))))))))))), ?_⟩
    -- the words
    refine ⟨.ref d, rfl, d, L, C, 16, rfl, D, by decide, fun H1 wa ws D1 k1 nwa waL hwa wl wnd wok => ?_⟩
    -- the labels
    refine ⟨.ref wa, rfl, .ref d, rfl, .int ma, rfl, d, L, C, ma, rfl, D1, by omega, by omega, fun H2 n D2 k2 n0 n1 => ⟨1, n, rfl, rfl, 1 + n, rfl, wa, _, rfl, .of (k2.lst D1 waL hwa), fun la nla => ?_⟩⟩
    obtain ⟨n, rfl⟩ : ∃ j : Nat, n = (j : Int) := ⟨n.toNat, by omega⟩
    have e1 : cutV (sV ws) none (some (1 + (n : Int))) = sV (ws.take (1 + n)) := by
      have e : (1 + (n : Int)) = ((1 + n : Nat) : Int) := by omega
      rw [e, cut_to (by simp [sV]; omega)]
      simp [sV, List.map_take]
    rw [e1]
    obtain ⟨lab, eLb⟩ : ∃ lab, lab = ws.take (1 + n) := ⟨_, rfl⟩
    rw [← eLb]
    have hn8 : 1 + n ≤ 8 := by omega
    have labl : lab.length = 1 + n := by rw [eLb, List.length_take]; omega
    have labok : ∀ x ∈ lab, WordOk x := fun x hx => wok x (List.mem_of_mem_take (by rw [← eLb]; exact hx))
    have labnd : lab.Nodup := by rw [eLb]; exact wnd.sublist (List.take_sublist ..)
    have s3 : Same H2 (upd H2 la (.lst (sV lab))) := Same.new nla
    have k3 := (k1.trans k2).trans (Same.kp (d := d) (L := L) s3)
    have D3 := D2.same s3
    have hwa3 := s3 _ _ (k2.lst D1 waL hwa)
    have laL := D2.neL nla
    -- the parts
    refine fun m nm => ⟨.ref la, rfl, la, rfl, ⟨_, .of (by rw [upd_ne (ne_of_none upd_same nm)]; exact upd_same)⟩, fun pa npa => ?_⟩
    have s4 : Same (upd H2 la (.lst (sV lab))) (upd (upd H2 la (.lst (sV lab))) m (.dK [])) := Same.new nm
    have k4 := k3.trans (Same.kp (d := d) (L := L) s4)
    have D4 := D3.same s4
    have mL := D3.neL nm
    have paL := D4.neL npa
    have hm4 : (upd (upd H2 la (.lst (sV lab))) m (.dK [])) m = some (.dK []) := upd_same
    have hla4 := s4 _ _ (upd_same (H := H2) (a := la) (o := .lst (sV lab)))
    refine lc_it (walk_list (xs := sV lab)) (fun i H5 => ∃ xs ps, H5 pa = some (.lst xs) ∧ Each (PartAt K H5) xs ps ∧ ps.map (·.1) = lab.take i ∧ (∀ p ∈ ps, p.2 ∈ [("hot" : Str), "cold"]) ∧ Dr H5 d L C ∧ Kp d L (upd (upd H2 la (.lst (sV lab))) m (.dK [])) H5)
      ⟨[], [], upd_same, Each.nil, rfl, fun p h => (by cases h), D4.new npa, Kp.new npa⟩ (fun i H5 _ p => ?_) (fun i x H5 H6 hi p y => ?_) (fun H5 p => ?_)
    · obtain ⟨_, _, _, _, _, _, _, kp⟩ := p
      exact .of (kp.lst D4 laL.1 hla4)
    · obtain ⟨xs, ps, hpa, he, hps, hk, D5, kp⟩ := p
      obtain ⟨rfl, hx⟩ := y
      have hi2 : i < lab.length := by simpa [sV] using hi
      have hx2 : (sV lab)[i]? = some (.str lab[i]) := by simp [sV, hi2]
      obtain rfl : x = .str lab[i] := Option.some.inj (hx.symm.trans hx2)
      refine ⟨rfl, .str lab[i], rfl, .ref d, rfl, by show 3 ≤ sizeLine; decide, fun o no => ?_⟩
      have s6 : Same H6 (upd H6 o (.lst (sV ["hot", "hot", "cold"]))) := Same.new no
      refine ⟨d, L, C, .ref o, rfl, D5.same s6, .inl ⟨o, sV ["hot", "hot", "cold"], rfl, (D5.neL no).1, .inl (.of upd_same), by show 0 < 3; decide, by show 3 < 1000; decide, fun H7 z D7 kp7 hz => ⟨by show 2 ≤ sizeLine; decide, fun t nt => ?_⟩⟩⟩
      obtain ⟨kd, hkd, rfl⟩ := List.mem_map.mp hz
      have s8 : Same H7 (upd H7 t (.tup [.str lab[i], .str kd])) := Same.new nt
      have kp6 := (Same.kp (d := d) (L := L) s6).trans kp7
      have hpa7 := kp6.lst D5 paL.1 hpa
      have hpa8 := s8 _ _ hpa7
      have xl : xs.length ≤ 8 := by
        have := congrArg List.length hps
        rw [List.length_map, List.length_take] at this
        have := he.1
        omega
      have kt8 : KT K H6 (upd H7 t (.tup [.str lab[i], .str kd])) := (kp6.kt D5).trans (Same.kt s8)
      have ntpa : t ≠ pa := (ne_of_none hpa7 nt).symm
      have ktD : KT K (upd H7 t (.tup [.str lab[i], .str kd])) (upd (upd H7 t (.tup [.str lab[i], .str kd])) pa (.lst (xs ++ [.ref t]))) := fun a l h => by
        rcases h with (h2 | ⟨o, h2⟩) | h2
        · exact .inl (.inl (by rw [upd_ne (ne_of h2 hpa8 (by intro z; cases z))]; exact h2))
        · exact .inl (.inr ⟨o, by rw [upd_ne (ne_of h2 hpa8 (by intro z; cases z))]; exact h2⟩)
        · exact .inr h2
      refine ⟨xs, hpa8, by rw [sizeLine_eq]; omega, xs ++ [.ref t], ps ++ [(lab[i], kd)], upd_same, ?_, ?_, ?_, (D7.same s8).lst hpa8 paL.1 paL.2.1 _, ((kp.trans kp6).trans (Same.kp s8)).at npa⟩
      · exact Each.snoc (he.imp fun _ _ r => PartAt.kt (kt8.trans ktD) r) ⟨t, rfl, ktD _ _ (.of upd_same)⟩
      · rw [List.map_append, hps, List.take_add_one, List.getElem?_eq_getElem hi2]
        rfl
      · intro p hp
        rcases List.mem_append.mp hp with h | h
        · exact hk p h
        · rw [List.mem_singleton.mp h]
          simp only [List.mem_cons, List.not_mem_nil, or_false] at hkd ⊢
          rcases hkd with h | h | h
          · exact .inl h
          · exact .inl h
          · exact .inr h
    obtain ⟨xs, ps, hpa, he, hps, hk, D5, kp5⟩ := p
    rw [List.take_of_length_le (by simp [sV])] at hps
    -- the display
    refine ⟨Nat.zero_le _, fun ca nca => ⟨Nat.zero_le _, fun ga nga => ?_⟩⟩
    have caL := D5.neL nca
    have s6 : Same H5 (upd H5 ca (.lst [])) := Same.new nca
    have gaL := (D5.same s6).neL nga
    have s7 := s6.trans (Same.new (o := .lst []) nga)
    have hm5 := kp5 _ _ hm4 mL.2.2 mL.1
    have hla5 := kp5.lst D4 laL.1 hla4
    have hwa5 := kp5.lst D4 waL (s4 _ _ hwa3)
    have k5 := k4.trans kp5
    refine ⟨s7 _ _ hm5, [(.inr "parts", .ref pa), (.inr "causes", .ref ca), (.inr "gates", .ref ga)], rfl, by show 3 ≤ 15; decide, ?_⟩
    have em : mergeK [] [((.inr "parts" : Key), V.ref pa), (.inr "causes", .ref ca), (.inr "gates", .ref ga)] = mkv pa ca ga := by with_unfolding_all rfl
    rw [em]
    have nm0 : H m = none := k3.free nm mL.2.2 mL.1
    have nca0 : H ca = none := k5.free nca caL.2.2 caL.1
    have nga0 : H ga = none := k5.free (s6.free nga) gaL.2.2 gaL.1
    have hgc : ga ≠ ca := (ne_of_none (upd_same (H := H5) (a := ca) (o := .lst [])) nga).symm
    have N : PStat d L C H wa la m pa ca ga := ⟨mL.2.2, mL.1, paL.1, caL.1, gaL.1, laL.1, waL, caL.2.1, gaL.2.1, (ne_of_none (s6 _ _ hpa) nga).symm, hgc, (ne_of_none (s6 _ _ hla5) nga).symm, (ne_of_none (s6 _ _ hwa5) nga).symm, (ne_of_none hpa nca).symm, (ne_of_none hla5 nca).symm, (ne_of_none hwa5 nca).symm, nca0, nga0, nm0⟩
    obtain ⟨H8, e8⟩ : ∃ H8, H8 = upd (upd (upd H5 ca (.lst [])) ga (.lst [])) m (.dK (mkv pa ca ga)) := ⟨_, rfl⟩
    have hm7 := s7 _ _ hm5
    have ktm : KT K (upd (upd H5 ca (.lst [])) ga (.lst [])) H8 := fun b xs hb => by
      rw [e8]
      rcases hb with (h2 | ⟨o, h2⟩) | h2
      · exact .inl (.inl (by rw [upd_ne (ne_of h2 hm7 (by intro z; cases z))]; exact h2))
      · exact .inl (.inr ⟨o, by rw [upd_ne (ne_of h2 hm7 (by intro z; cases z))]; exact h2⟩)
      · exact .inr h2
    have lm : ∀ b l, (upd (upd H5 ca (.lst [])) ga (.lst [])) b = some (.lst l) → H8 b = some (.lst l) := fun b l h => by
      rw [e8, upd_ne (ne_of h hm7 (by intro z; cases z))]
      exact h
    have D8 : Dr H8 d L C := by
      obtain ⟨ls, cs, r, t, mm, D7⟩ := D5.same s7
      rw [e8]
      exact ⟨ls, cs, r, t, mm, { D7 with hd := by rw [upd_ne mL.2.2.symm]; exact D7.hd, hL := by rw [upd_ne mL.1.symm]; exact D7.hL, hC := by rw [upd_ne mL.2.1.symm]; exact D7.hC }⟩
    have S8 : PSt K d L C H wa la m pa ca ga ws lab (mkv pa ca ga) xs ps [] [] [] [] H8 :=
      ⟨D8, by rw [e8]; exact (k5.trans (Same.kp s7)).at nm0, by rw [e8]; exact upd_same, lm _ _ (s7 _ _ hpa), he.imp fun _ _ r => PartAt.kt ((Same.kt s7).trans ktm) r, lm _ _ (by rw [upd_ne hgc.symm, upd_same]), Each.nil, lm _ _ upd_same, Each.nil, lm _ _ (s7 _ _ hla5), lm _ _ (s7 _ _ hwa5)⟩
    rw [← e8]
    -- the gates
    refine ⟨.ref d, rfl, .int mb, rfl, d, L, C, mb, rfl, S8.D, by omega, by omega, fun H9 t D9 k9 t0 t1 => ⟨t, rfl, by omega, by omega, ?_⟩⟩
    have S9 := S8.next N k9 D9
    obtain ⟨t, rfl⟩ : ∃ j : Nat, t = (j : Int) := ⟨t.toNat, by omega⟩
    have wl' : ws.length = 16 := wl
    refine for_it (walk_range (lo := 0) (n := ((t : Int)).toNat)) (fun i σ H10 => ∃ y7 y8 y9 y10 y11 ys gs, σ = [some (.ref d), some (.int ma), some (.int mb), some (.int mc), some (.ref wa), some (.ref la), some (.ref m), y7, y8, y9, y10, y11] ∧ PSt K d L C H wa la m pa ca ga ws lab (mkv pa ca ga) xs ps [] [] ys gs H10 ∧ gs.map G.name = (ws.drop 8).take i ∧ GP lab gs)
      ⟨_, _, _, _, _, [], [], rfl, S9, rfl, GP.nil⟩ (fun _ _ _ _ _ => trivial) (fun i x σ H10 H11 hi p y => ?_) (fun σ H10 p => ?_)
    · obtain ⟨y7, y8, y9, y10, y11, ys, gs, rfl, S, hnm, hgp⟩ := p
      obtain ⟨rfl, rfl⟩ := y
      have hi6 : i < 7 := by omega
      have e0 : (8 : Int) + (0 + (i : Int)) = ((8 + i : Nat) : Int) := by omega
      have hw : (sV ws)[8 + i]? = some (.str (ws[8 + i]'(by omega))) := by simp [sV, show 8 + i < ws.length by omega]
      have gl : gs.length = i := by
        have := congrArg List.length hnm
        rw [List.length_map, List.length_take, List.length_drop] at this
        omega
      refine ⟨.ref m, rfl, m, .ref ga, rfl, gK S.hm mk_g, .inl ⟨rfl, _, .of S.hga⟩, .ref d, rfl, .ref wa, rfl, .int (0 + (i : Int)), rfl, 8, 0 + (i : Int), rfl, rfl, wa, _, _, _, rfl, rfl, .of S.hwa, by rw [e0]; exact atI_nat hw, .ref la, rfl, .ref la, rfl, .ref m, rfl, m, .ref ga, rfl, gK S.hm mk_g, ga, rfl, ⟨_, .of S.hga⟩, fun G0 nG => ?_⟩
      refine lc_it (walk_list (xs := ys)) (LP H11 G0 fun j => sV ((gs.take j).map G.name)) (LP.zero nG rfl) (fun _ _ _ p => p.sm.seq (.of S.hga)) (fun j x H12 H13 hj p y => ?_) (fun H12 p => ?_)
      · obtain ⟨rfl, hx⟩ := y
        obtain ⟨g, hg, r⟩ := S.heg.2 j x hx
        obtain ⟨tt, rest, rfl, ht, _⟩ := (GateAt.kt (Same.kt p.sm) r).cut
        refine ⟨rfl, .ref tt, rfl, tt, _, 0, .str g.name, rfl, rfl, .inr ht, at0, ?_⟩
        refine p.put nG (Same.refl _) ?_ (by rw [sizeLine_eq]; simp [sV]; omega)
        show sV _ = sV _ ++ [_]
        rw [List.take_add_one, hg]
        simp [sV]
      have hG : H12 G0 = some (.lst (sV (gs.map G.name))) := by rw [p.at_, S.heg.1, List.take_length]
      have S12 := S.same N p.sm
      refine ⟨la, G0, _, _, rfl, rfl, S12.hla, hG, by rw [sizeLine_eq]; simp [sV]; omega, fun K0 nK => ?_⟩
      have s13 : Same H12 (upd H12 K0 (.lst (sV lab ++ sV (gs.map G.name)))) := Same.new nK
      have S13 := S12.same N s13
      have eK : sV lab ++ sV (gs.map G.name) = sV (lab ++ gs.map G.name) := by simp [sV]
      have knd : (lab ++ gs.map G.name).Nodup := by rw [eLb, hnm]; exact words_nodup wnd hn8
      have kok : ∀ x ∈ lab ++ gs.map G.name, WordOk x := fun x hx => by
        rcases List.mem_append.mp hx with h | h
        · exact labok x h
        · rw [hnm] at h
          exact wok x (List.mem_of_mem_drop (List.mem_of_mem_take h))
      refine ⟨d, L, C, _, la, lab, K0, lab ++ gs.map G.name, rfl, S13.D, laL.1, .inl (.of S13.hla), labnd, by omega, by omega, fun x hx => (labok x hx).1.str, (S12.D.neL nK).1, .inl (.of (by rw [upd_same, eK])), knd, by rw [List.length_append]; omega, by rw [List.length_append, List.length_map]; omega, fun x hx => (kok x hx).1.str, fun H14 v g D14 k14 hv hgn hgi => ?_⟩
      have S14 := S13.next N k14 D14
      refine ⟨ga, ys, v, rfl, rfl, S14.hga, by have := S14.heg.1; rw [sizeLine_eq]; omega, ?_⟩
      have nw : NameOk (ws[8 + i]'(by omega)) := (wok _ (List.getElem_mem ..)).1
      have newn : ¬ (ws[8 + i]'(by omega)) ∈ lab ++ gs.map G.name := by rw [eLb, hnm]; exact word_new wnd wl' hn8 (Nat.le_refl i) (by omega)
      refine ⟨_, _, _, _, _, ys ++ [v], gs ++ [g], rfl, S14.gate N (Each.snoc S14.heg hv), ?_, hgp.snoc ⟨by rw [hgn]; exact nw, by rw [hgn]; exact newn, hgi⟩⟩
      rw [List.map_append, hnm, List.take_add_one]
      have e : (ws.drop 8)[i]? = some (ws[8 + i]'(by omega)) := by rw [List.getElem?_drop, List.getElem?_eq_getElem]
      rw [e]
      simp [hgn]
    obtain ⟨y7, y8, y9, y10, y11, ys, gs, rfl, S, hnm, hgp⟩ := p
    have et : ((t : Int)).toNat = t := by omega
    rw [et] at hnm
    have gl : gs.length = t := by
      have := congrArg List.length hnm
      rw [List.length_map, List.length_take, List.length_drop] at this
      omega
    have knd : (lab ++ gs.map G.name).Nodup := by rw [eLb, hnm]; exact words_nodup wnd hn8
    have kok : ∀ x ∈ lab ++ gs.map G.name, WordOk x := fun x hx => by
      rcases List.mem_append.mp hx with h | h
      · exact labok x h
      · rw [hnm] at h
        exact wok x (List.mem_of_mem_drop (List.mem_of_mem_take h))
    have klen : (lab ++ gs.map G.name).length ≤ 15 := by rw [List.length_append, List.length_map]; omega
    have klo : 1 ≤ (lab ++ gs.map G.name).length := by rw [List.length_append]; omega
    -- known
    refine ⟨.ref la, rfl, .ref m, rfl, m, .ref ga, rfl, gK S.hm mk_g, ga, rfl, ⟨_, .of S.hga⟩, fun G0 nG => ?_⟩
    refine lc_it (walk_list (xs := ys)) (LP H10 G0 fun j => sV ((gs.take j).map G.name)) (LP.zero nG rfl) (fun _ _ _ p => p.sm.seq (.of S.hga)) (fun j x H12 H13 hj p y => ?_) (fun H12 p => ?_)
    · obtain ⟨rfl, hx⟩ := y
      obtain ⟨g, hg, r⟩ := S.heg.2 j x hx
      obtain ⟨tt, rest, rfl, ht, _⟩ := (GateAt.kt (Same.kt p.sm) r).cut
      refine ⟨rfl, .ref tt, rfl, tt, _, 0, .str g.name, rfl, rfl, .inr ht, at0, ?_⟩
      refine p.put nG (Same.refl _) ?_ (by rw [sizeLine_eq]; simp [sV]; omega)
      show sV _ = sV _ ++ [_]
      rw [List.take_add_one, hg]
      simp [sV]
    have hG : H12 G0 = some (.lst (sV (gs.map G.name))) := by rw [p.at_, S.heg.1, List.take_length]
    have S12 := S.same N p.sm
    refine ⟨la, G0, _, _, rfl, rfl, S12.hla, hG, by rw [sizeLine_eq]; simp [sV]; omega, fun kn nK => ?_⟩
    have s13 : Same H12 (upd H12 kn (.lst (sV lab ++ sV (gs.map G.name)))) := Same.new nK
    have S13 := S12.same N s13
    have eK : sV lab ++ sV (gs.map G.name) = sV (lab ++ gs.map G.name) := by simp [sV]
    have knL := S12.D.neL nK
    have hkn : (upd H12 kn (.lst (sV lab ++ sV (gs.map G.name)))) kn = some (.lst (sV (lab ++ gs.map G.name))) := by rw [upd_same, eK]
    have kng : kn ≠ ga := (ne_of_none S12.hga nK).symm
    have knc : kn ≠ ca := (ne_of_none S12.hca nK).symm
    -- inputs
    refine ⟨.ref d, rfl, .ref kn, rfl, d, L, C, kn, 4, lab ++ gs.map G.name, rfl, S13.D, knL.1, .inl (.of hkn), knd, klo, by omega, fun x hx => (kok x hx).1.str, by decide, by decide, fun H14 ip il D14 k14 hip chi hil => ?_⟩
    have S14 := S13.next N k14 D14
    have hkn14 := k14.lst S13.D knL.1 hkn
    have il1 : 1 ≤ il.length := by
      cases il with
      | nil => exact absurd rfl chi.ne
      | cons _ _ => simp
    have hw15 : (sV ws)[15]? = some (.str (ws[8 + 7]'(by omega))) := by simp [sV, show 15 < ws.length by omega]
    obtain ⟨tp, etp⟩ : ∃ tp, tp = ws[8 + 7]'(by omega) := ⟨_, rfl⟩
    rw [← etp] at hw15
    have tpok : WordOk tp := by rw [etp]; exact wok _ (List.getElem_mem ..)
    have tpnew : ¬ tp ∈ lab ++ gs.map G.name := by rw [etp, eLb, hnm]; exact word_new wnd wl' hn8 (by omega) (by omega)
    -- the top gate
    refine ⟨.ref m, rfl, m, .ref ga, rfl, gK S14.hm mk_g, .inl ⟨rfl, _, .of S14.hga⟩, .ref wa, rfl, wa, _, 15, .str tp, rfl, rfl, .of S14.hwa, atI_nat (j := 15) hw15, .ref d, rfl, .ref ip, rfl, ip, _, rfl, .inr hip, d, L, C, _, rfl, S14.D, by simp [sV]; omega, by simp [sV]; omega, fun H15 k D15 k15 h0 h1 => ⟨1, k, rfl, rfl, .ref ip, rfl, by show 4 ≤ sizeLine; decide, fun tt nt => ?_⟩⟩
    have hk1 : k < (il.length : Int) := by simpa [sV] using h1
    have S15 := S14.next N k15 D15
    have s16 : Same H15 (upd H15 tt (.tup [.str tp, .str "least", .int (1 + k), .ref ip])) := Same.new nt
    have S16 := S15.same N s16
    have hkn16 := s16 _ _ (k15.lst S14.D knL.1 hkn14)
    refine ⟨ga, ys, .ref tt, rfl, rfl, S16.hga, by have := S16.heg.1; rw [sizeLine_eq]; omega, ?_⟩
    have gtop : GateAt K (upd H15 tt (.tup [.str tp, .str "least", .int (1 + k), .ref ip])) (.ref tt) (.least tp (1 + k) il) := ⟨tt, ip, rfl, .of upd_same, Same.sqt s16 (k15.kt S14.D _ _ hip)⟩
    have S17 := S16.gate N (Each.snoc S16.heg gtop)
    have gp17 : GP lab (gs ++ [.least tp (1 + k) il]) := hgp.snoc ⟨tpok.1, tpnew, chi, by omega, by omega⟩
    have hkn17 : (upd (upd H15 tt (.tup [.str tp, .str "least", .int (1 + k), .ref ip])) ga (.lst (ys ++ [.ref tt]))) kn = some (.lst (sV (lab ++ gs.map G.name))) := by rw [upd_ne kng]; exact hkn16
    -- the causes
    refine ⟨.ref d, rfl, .int mc, rfl, mc, 1, rfl, rfl, d, L, C, (mc : Int) + 1, rfl, S17.D, by omega, by omega, fun H18 t2 D18 k18 u0 u1 => ⟨t2, rfl, by omega, by omega, ?_⟩⟩
    have S18 := S17.next N k18 D18
    have hkn18 := k18.lst S17.D knL.1 hkn17
    refine for_it (walk_range (lo := 0) (n := t2.toNat)) (fun i σ H19 => ∃ y7 y10 y11 zs cs, σ = [some (.ref d), some (.int ma), some (.int mb), some (.int mc), some (.ref wa), some (.ref la), some (.ref m), y7, some (.ref kn), some (.ref ip), y10, y11] ∧ PSt K d L C H wa la m pa ca ga ws lab (mkv pa ca ga) xs ps zs cs (ys ++ [.ref tt]) (gs ++ [.least tp (1 + k) il]) H19 ∧ H19 kn = some (.lst (sV (lab ++ gs.map G.name))) ∧ cs.length = i ∧ ∀ c ∈ cs, CauseOk lab (lab ++ gs.map G.name) c)
      ⟨_, _, _, [], [], rfl, S18, hkn18, rfl, fun c h => (by cases h)⟩ (fun _ _ _ _ _ => trivial) (fun i x σ H19 H20 hi p y => ?_) (fun σ H19 p => ?_)
    · obtain ⟨y7, y10, y11, zs, cs, rfl, S, hkn, hcl, hcok⟩ := p
      obtain ⟨rfl, rfl⟩ := y
      refine ⟨.ref m, rfl, m, .ref ca, rfl, gK S.hm mk_c, .inl ⟨rfl, _, .of S.hca⟩, .ref d, rfl, .ref kn, rfl, d, L, C, .ref kn, rfl, S.D, .inl ⟨kn, _, rfl, knL.1,   .inl (.of hkn), by have := klo; simp [sV] at this ⊢; omega, by have := klen; simp [sV] at this ⊢; omega, fun H21 x D21 k21 hx => ?_⟩⟩
      obtain ⟨tr, htr, rfl⟩ := List.mem_map.mp hx
      have S21 := S.next N k21 D21
      refine ⟨.ref d, rfl, .ref la, rfl, d, L, C, la, 3, lab, rfl, S21.D, laL.1, .inl (.of S21.hla), labnd, by omega, by omega, fun x hx => (labok x hx).1.str, by decide, by decide, fun H22 cp cl D22 k22 hcp chc _ => ⟨by show 2 ≤ sizeLine; decide, fun t3 nt3 => ?_⟩⟩
      have S22 := S21.next N k22 D22
      have s23 : Same H22 (upd H22 t3 (.tup [.str tr, .ref cp])) := Same.new nt3
      have S23 := S22.same N s23
      have hkn23 := s23 _ _ (k22.lst S21.D knL.1 (k21.lst S.D knL.1 hkn))
      refine ⟨ca, zs, .ref t3, rfl, rfl, S23.hca, by have := S23.hec.1; rw [sizeLine_eq]; omega, ?_⟩
      refine ⟨_, _, _, zs ++ [.ref t3], cs ++ [(tr, cl)], rfl, S23.cause N (Each.snoc S23.hec ⟨t3, cp, rfl, .of upd_same, Same.sqt s23 hcp⟩), by rw [upd_ne knc]; exact hkn23, by simp [hcl], fun c hc => ?_⟩
      rcases List.mem_append.mp hc with h | h
      · exact hcok c h
      · rw [List.mem_singleton.mp h]
        exact ⟨htr, chc⟩
    obtain ⟨y7, y10, y11, zs, cs, rfl, S, hkn, hcl, hcok⟩ := p
    have hpsl : ps.map (·.1) = lab := hps
    have psl : ps.length = 1 + n := by
      have := congrArg List.length hpsl
      rw [List.length_map] at this
      omega
    obtain ⟨gf, egf⟩ : ∃ gf, gf = gs ++ [G.least tp (1 + k) il] := ⟨_, rfl⟩
    rw [← egf] at S gp17
    have gfl : gf.length = t + 1 := by rw [egf, List.length_append, gl]; rfl
    have gfn : gf.map G.name = gs.map G.name ++ [tp] := by rw [egf, List.map_append]; rfl
    have psok : PartsOk ps := ⟨by omega, by omega, fun p hp => ⟨(labok p.1 (by rw [← hpsl]; exact List.mem_map.mpr ⟨p, hp, rfl⟩)).1, hk p hp⟩, by rw [hpsl]; exact labnd⟩
    have csok : ∀ names, (∀ x ∈ lab ++ gs.map G.name, x ∈ names) → CausesOk lab names cs := fun names hn => ⟨by omega, fun c hc => ⟨hn _ (hcok c hc).trig, (hcok c hc).ch⟩⟩
    have gnd : (gf.map G.name).Nodup := by
      rw [gfn]
      refine nd_snoc (knd.sublist (List.sublist_append_right ..)) fun h => tpnew (List.mem_append_right _ h)
    have gp17' : GP (ps.map (·.1)) gf := by rw [hpsl]; exact gp17
    have full := gp17'.full (fun x hx => (labok x (by rw [← hpsl]; exact hx)).1)
    have feq : seat0 gf = firstU gf := first_eq gnd full
    have tok : TellOk ps (firstU gf) gf := tellOk_of gp17' (by omega) (by omega) (firstU_spare gf)
    have pool := gp17'.pool
    rw [hpsl] at pool
    -- m['top']
    have hmt : (upd H19 m (.dK (mkv4 pa ca ga (.str tp)))) m = some (.dK (mkv4 pa ca ga (.str tp))) := upd_same
    have lm4 : ∀ b l, H19 b = some (.lst l) → (upd H19 m (.dK (mkv4 pa ca ga (.str tp)))) b = some (.lst l) := fun b l h => by rw [upd_ne (ne_of h S.hm (by intro z; cases z))]; exact h
    have ktm4 : KT K H19 (upd H19 m (.dK (mkv4 pa ca ga (.str tp)))) := fun b xs hb => by
      rcases hb with (h2 | ⟨o, h2⟩) | h2
      · exact .inl (.inl (by rw [upd_ne (ne_of h2 S.hm (by intro z; cases z))]; exact h2))
      · exact .inl (.inr ⟨o, by rw [upd_ne (ne_of h2 S.hm (by intro z; cases z))]; exact h2⟩)
      · exact .inr h2
    have D20 : Dr (upd H19 m (.dK (mkv4 pa ca ga (.str tp)))) d L C := by
      obtain ⟨ls, cs, r, t, mm, D7⟩ := S.D
      exact ⟨ls, cs, r, t, mm, { D7 with hd := by rw [upd_ne mL.2.2.symm]; exact D7.hd, hL := by rw [upd_ne mL.1.symm]; exact D7.hL, hC := by rw [upd_ne mL.2.1.symm]; exact D7.hC }⟩
    have S20 : PSt K d L C H wa la m pa ca ga ws lab (mkv4 pa ca ga (.str tp)) xs ps zs cs (ys ++ [.ref tt]) gf (upd H19 m (.dK (mkv4 pa ca ga (.str tp)))) :=
      ⟨D20, S.kp.at nm0, hmt, lm4 _ _ S.hpa, S.hea.imp fun _ _ r => PartAt.kt ktm4 r, lm4 _ _ S.hca, S.hec.imp fun _ _ r => CauseAt.kt ktm4 r, lm4 _ _ S.hga, S.heg.imp fun _ _ r => GateAt.kt ktm4 r, lm4 _ _ S.hla, lm4 _ _ S.hwa⟩
    refine ⟨.ref wa, rfl, wa, _, 15, .str tp, rfl, rfl, .of S.hwa, atI_nat (j := 15) hw15, .ref m, rfl, m, _, rfl, DPut.k (k := .inr "top") S.hm (small1000 (by show 3 ≤ 1000; decide)), ?_⟩
    rw [mk_put]
    -- is the top true at the beginning?
    refine ⟨.ref wa, rfl, wa, _, 15, .str tp, rfl, rfl, .of S20.hwa, atI_nat (j := 15) hw15, .ref m, rfl, m, _, pa, xs, ps, ga, ys ++ [.ref tt], gf, rfl, S20.hm, mk4_p, mk4_g, .inl (.of S20.hpa), S20.hea, .inl (.of S20.hga), S20.heg, by rw [feq]; exact tok, fun n qs h => by have := pool n qs h; omega, fun H21 ww g u sn s21 _ _ _ _ W21 => ?_⟩
    have S21 := S20.same N s21
    have gS : DGet H21 sn (.str tp) ((getA (since0 ps gf) tp).map V.int) := by
      have q := DGet.k (k := .inr tp) W21.hs
      rw [valV_dS] at q
      exact q
    refine ⟨ww, .ref sn, rfl, W21.gS, sn, _, rfl, gS, _, rfl, ?_⟩
    have isS : ((getA (since0 ps gf) tp).map V.int).isSome = true ↔ lookT (tellM noBefore [] (firstU gf) ps gf) tp = true := by
      rw [Option.isSome_map]
      have e1 : (getA (since0 ps gf) tp).isSome = true ↔ KeyIn (since0 ps gf) tp := by
        constructor
        · intro h
          obtain ⟨z, hz⟩ := Option.isSome_iff_exists.mp h
          exact getA_any hz
        · intro h
          obtain ⟨z, hz⟩ := getA_of_any h
          rw [hz]
          rfl
      rw [e1]
      unfold since0
      rw [since_iff, lawTr_eq, feq]
    have wordsOk : ∀ gs' : List G, gs'.map G.name = gf.map G.name → ∀ x ∈ ps.map (·.1) ++ gs'.map G.name, WordOk x := fun gs' e x hx => by
      rw [e, hpsl, gfn] at hx
      rcases List.mem_append.mp hx with h | h
      · exact labok x h
      · rcases List.mem_append.mp h with h | h
        · exact kok x (List.mem_append_right _ h)
        · rw [List.mem_singleton.mp h]; exact tpok
    have subn : ∀ x ∈ lab ++ gs.map G.name, x ∈ lab ++ gf.map G.name := fun x hx => by
      rw [gfn]
      rcases List.mem_append.mp hx with h | h
      · exact List.mem_append_left _ h
      · exact List.mem_append_right _ (List.mem_append_left _ h)
    refine ite2 (fun e => ?_) (fun e => ?_)
    · -- all parts instead
      have labne : lab ≠ [] := fun e => by rw [e] at labl; simp at labl; omega
      refine ⟨.ref wa, rfl, wa, _, 15, .str tp, rfl, rfl, .of S21.hwa, atI_nat (j := 15) hw15, .ref la, rfl, la, _, rfl, .inl (.of S21.hla), fun tl0 H22 s22 htl => ⟨by show 3 ≤ sizeLine; decide, fun t5 nt5 => ?_⟩⟩
      have S22 := S21.same N s22
      have s23 : Same H22 (upd H22 t5 (.tup [.str tp, .str "all", .ref tl0])) := Same.new nt5
      have S23 := S22.same N s23
      have hz : ixN (ys ++ [V.ref tt]).length (-1) = some ys.length := by
        unfold ixN
        rw [if_neg (by decide), if_pos (by rw [List.length_append]; simp; omega)]
        rw [List.length_append]
        simp
        omega
      refine ⟨.ref m, rfl, m, .ref ga, rfl, gK S23.hm mk4_g, 1, rfl, ga, _, -1, ys.length, rfl, rfl, S23.hga, hz, ?_⟩
      have eset : (ys ++ [V.ref tt]).set ys.length (.ref t5) = ys ++ [.ref t5] := by simp
      rw [eset]
      obtain ⟨gf2, egf2⟩ : ∃ gf2, gf2 = gs ++ [G.all tp lab] := ⟨_, rfl⟩
      have hall : GateAt K (upd H22 t5 (.tup [.str tp, .str "all", .ref tl0])) (.ref t5) (.all tp lab) := ⟨t5, tl0, rfl, .of upd_same, Same.sqt s23 htl⟩
      have heg23 : Each (GateAt K (upd H22 t5 (.tup [.str tp, .str "all", .ref tl0]))) (ys ++ [.ref t5]) gf2 := by
        have h := S23.heg
        rw [egf] at h
        rw [egf2]
        exact Each.snoc h.init hall
      have S24 := S23.gate N heg23
      have gp2 : GP lab gf2 := by rw [egf2]; exact hgp.snoc ⟨tpok.1, tpnew, labne, labnd, fun x hx => List.mem_append_left _ hx, by omega⟩
      have gfn2 : gf2.map G.name = gf.map G.name := by rw [egf2, gfn, List.map_append]; rfl
      have gfl2 : gf2.length = t + 1 := by rw [egf2, List.length_append, gl]; rfl
      have gp2' : GP (ps.map (·.1)) gf2 := by rw [hpsl]; exact gp2
      have tok2 : TellOk ps (firstU gf2) gf2 := tellOk_of gp2' (by omega) (by omega) (firstU_spare gf2)
      have pool2 := gp2'.pool
      rw [hpsl] at pool2
      have no : lookT (tellM noBefore [] (firstU gf2) ps gf2) tp = false := by
        have e2 : gf2 = gs ++ [G.all tp (ps.map (·.1))] := by rw [egf2, hpsl]
        rw [e2]
        refine all_false (fun x hx h => ?_) (fun e => by rw [e] at psl; simp at psl; omega)
        rw [hpsl] at hx
        exact (List.nodup_append.mp knd).2.2 x hx x h rfl
      refine ⟨.ref m, rfl, q _ m ps cs gf2 tp S24.D S24.kp nm0 ⟨pa, ca, ga, xs, zs, ys ++ [.ref t5], S24.hm, S24.hpa, S24.hea, S24.hca, S24.hec, S24.hga, S24.heg, N.md, N.paL, N.caL, N.gaL⟩ ⟨psok, ⟨by omega, by omega, gp2'⟩, ?_, ⟨by rw [gfn2, gfn]; simp, tok2, fun n qs h => by have := pool2 n qs h; omega, no⟩⟩ (by omega) (wordsOk gf2 gfn2)⟩
      rw [hpsl, gfn2]
      exact csok _ subn
    · have no : lookT (tellM noBefore [] (firstU gf) ps gf) tp = false := by
        cases h : lookT (tellM noBefore [] (firstU gf) ps gf) tp with
        | false => rfl
        | true => exact absurd (isS.mpr h) e
      refine ⟨.ref m, rfl, q H21 m ps cs gf tp S21.D S21.kp nm0 ⟨pa, ca, ga, xs, zs, ys ++ [.ref tt], S21.hm, S21.hpa, S21.hea, S21.hca, S21.hec, S21.hga, S21.heg, N.md, N.paL, N.caL, N.gaL⟩ ⟨psok, ⟨by omega, by omega, gp17'⟩, ?_, ⟨by rw [gfn]; simp, tok, fun n qs h => by have := pool n qs h; omega, no⟩⟩ (by omega) (wordsOk gf rfl)⟩
      rw [hpsl]
      exact csok _ subn
end
end Kf

set_option Elab.async false
set_option linter.all false
set_option maxRecDepth 100000
set_option maxHeartbeats 2000000
namespace Kf
open PySem PySem.Spec PyProof.Rows L2
/-! ### sorted(xs) of data of any depth -/
theorem each_of_paired {β : Type} {R : V → β → Prop} : ∀ {xs : List V} {us : List Value} {bs : List β}, Vals xs us → Paired R xs bs → PySem.W.EachIs (fun v b => ∃ x, RelV x v ∧ R x b) us bs
  | _, _, _, .nil, .nil => .nil
  | _, _, _, .cons r t, .cons h t2 => .cons ⟨_, r, h⟩ (each_of_paired t t2)
theorem each_back {β : Type} {R : V → β → Prop} : ∀ {us : List Value} {bs : List β}, PySem.W.EachIs (fun v b => ∃ x, RelV x v ∧ R x b) us bs → ∃ ys, Vals ys us ∧ Paired R ys bs
  | _, _, .nil => ⟨[], .nil, .nil⟩
  | _, _, .cons ⟨x, r, h⟩ t => by
    obtain ⟨ys, v, p⟩ := each_back t
    exact ⟨x :: ys, .cons r v, .cons h p⟩
theorem each_imp {β : Type} {R R' : Value → β → Prop} (h : ∀ v b, R v b → R' v b) : ∀ {us : List Value} {bs : List β}, PySem.W.EachIs R us bs → PySem.W.EachIs R' us bs
  | _, _, .nil => .nil
  | _, _, .cons a t => .cons (h _ _ a) (each_imp h t)
theorem Paired.imp2 {α β : Type} {R R' : α → β → Prop} (h : ∀ x b, R x b → R' x b) : ∀ {xs : List α} {bs : List β}, Paired R xs bs → Paired R' xs bs
  | _, _, .nil => .nil
  | _, _, .cons a t => .cons (h _ _ a) (Paired.imp2 h t)
section
variable {X : Cx}
def rSortV (K : PySem.W.Frag) : List V → Hp → VK → Prop := fun vs H Q => ∃ (a : Addr) (xs : List V) (β : Type) (bs : List β) (enc : β → PyData) (R : V → β → Prop), vs = [.ref a] ∧ SqL K H a xs ∧ Paired (fun x b => Dp K H x (enc b) ∧ R x b) xs bs ∧ PySem.W.AllAlike (bs.map enc) ∧ PySem.W.Sortable (bs.map enc) ∧
  (∀ b ∈ bs, (enc b).depth ≤ 60) ∧ ∀ (ys : List V) (p : Addr), Paired R ys (bs.mergeSort (PySem.W.dataLe false enc)) → H p = none → Q (.ref p) (upd H p (.lst ys))
theorem cr_sortV (hu : X.A.units + 64 < cLine) : CallR X (.builtin "sorted") (rSortV X.K) := by
  intro pins s σ H vs us Q I r h
  obtain ⟨a, xs, β, bs, enc, R, rfl, hs, hp, hal, hk, hd, q⟩ := h
  obtain ⟨its, rv, hl, hz⟩ := I.list hs
  rw [Vals.ref1 r]
  have e0 := each_of_paired rv hp
  have e1 : PySem.W.EachIs (fun v b => ∃ x, RelV x v ∧ R x b) its bs := each_imp (fun v b ⟨x, r, _, h⟩ => ⟨x, r, h⟩) e0
  have er : PySem.W.EachIs (fun v b => ∃ as, Reads s.heap v (enc b) as) its bs := each_imp (fun v b ⟨x, r, h, _⟩ => Dp.reads I (enc b) x v h r) e0
  have hlen : bs.length ≤ sizeLine := by rw [← e1.length, ← rv.length]; exact hz
  refine PySem.W.sorted_data hl.isList e1 er hal hk hlen (fun b hb => by have := hd b hb; omega) fun out ho eo => ?_
  obtain ⟨ys, vy, py⟩ := each_back eo
  obtain ⟨ep, he'⟩ := PyProof.Rows.sortedAll_at s.heap its out.toArray
  have hly : ys.length ≤ sizeLine := by rw [vy.length, ho]; exact hlen
  exact ⟨.ref _, upd H (s.heap.objs.size + 1) (.lst ys), I.laid (t' := s.toks) (fun _ _ => PyProof.Rows.sortedAll_old) (Nat.le_succ _) ⟨hly, out, ep, vy, he'⟩, rfl, q ys _ py (I.hok.fresh (Nat.le_succ _))⟩
end
end Kf

set_option Elab.async false
set_option linter.all false
set_option maxRecDepth 100000
set_option maxHeartbeats 2000000
namespace Kf
open PySem PySem.Spec PyProof.Rows L2
/-! ### tuple(d.items()) -/
section
variable {prog : Program} {w : World} {A : Around} {E : Value → Shared → Prop} {s : Shared} {r d : Addr} {kvs : List (Key × Value)} {ep : Nat}
theorem code_tupNew_items {Q₁ : Value → Shared → Prop} (hh : A.handled = none) (hv : s.heap.IsItemsView r d) (hm : s.heap.DictAt (mixKind prog w) d kvs ep) (hn : kvs.length ≤ sizeLine)
    (h : ∀ (h' : Heap) (tk : Nat) (as : List Addr), (∀ b o, s.heap.get? b = some o → h'.get? b = some o) → as.length = kvs.length → PySem.W.KdxG (mixKind prog w) kvs s.heap.objs.size h' as →
      Q₁ (.ref h'.objs.size) { s with heap := h'.push { cls := .type "tuple", data := .seq (as.map Value.ref).toArray }, toks := tk }) :
    codeAny (model prog w) A (.call (.builtin "tuple.__new__") ⟨[.type "tuple", .ref r], []⟩) (wants Q₁ E) s := by
  refine codeAny_of_tree ?_
  show wpAny _ A.in1 (do checkBuiltinCall "tuple.__new__" ⟨[.type "tuple", .ref r], []⟩; again (.builtin "tuple.__new__" ⟨[.type "tuple", .ref r], []⟩)) _ _ s
  refine wpAny_bind (wpAny_of_eq (F.newCall_tuple_1 _) (wpAny_pure ⟨plainId_quiet F.plain_tuple_new _, codeAny_builtin F.entry_tuple_new ?_⟩))
  rw [Around.under_plainId F.plain_tuple_new _]
  have hsub := sub_tuple_self
  have hinit := init_tuple_lookup
  have hmh := madeHere_tuple
  have hTI : s.TypeIs (.ref r) "dict_items" := hv.typeIs
  have hh1 : A.in1.handled = none := hh
  wp_walk using wpAny_typeOf hTI, PySem.W.kdx_collect (A := A.in1) (knd := mixKind prog w) (kvs := kvs) (ep := ep) hh1 hv hm hn
  intro h' tk as hk hl hG
  show wpAny _ _ (Builtin.Tuple.tupleExact (as.map Value.ref).toArray >>= fun v => ret v) _ _ _
  unfold Builtin.Tuple.tupleExact
  refine wpAny_bind (wpAny_newObj_type ?_ (by show (as.map Value.ref).toArray.size ≤ sizeLine; simp only [List.size_toArray, List.length_map]; omega))
  exact wpAny_pure (h h' tk as hk hl hG)
theorem call_tup_items {Q : Value → Shared → Prop} (hh : A.handled = none) (hv : s.heap.IsItemsView r d) (hm : s.heap.DictAt (mixKind prog w) d kvs ep) (hn : kvs.length ≤ sizeLine)
    (hQ : ∀ (h' : Heap) (tk : Nat) (as : List Addr), (∀ b o, s.heap.get? b = some o → h'.get? b = some o) → as.length = kvs.length → PySem.W.KdxG (mixKind prog w) kvs s.heap.objs.size h' as →
      Q (.ref h'.objs.size) { s with heap := h'.push { cls := .type "tuple", data := .seq (as.map Value.ref).toArray }, toks := tk }) :
    wpAny (model prog w) A (call (.type "tuple") [.ref r]) Q E s := by
  refine callType_codes (Q₁ := fun obj s₁ => s₁.TypeIs obj "tuple" ∧ Q obj s₁) F.called_tuple (F.typeCall_tuple_1 _) F.entry_object_init
    (code_tupNew_items (A := A.in1) hh hv hm hn fun h' tk as hk hl hG => ⟨⟨_, Heap.get?_push_size _ rfl, rfl⟩, hQ h' tk as hk hl hG⟩) fun obj s₁ h₁ => ?_
  exact ⟨h₁.1, F.args_object_init_2 obj _, object_init_meets F.called_tuple.init.lookup F.called_tuple.made (by decide) prog w A.in1 _ s₁ ⟨h₁.1, rfl, h₁.2⟩⟩
end
/-- a tuple of objects whose own object is known to have no dict of its own -/
def UTup (H : Hp) (a : Addr) (ts : List Addr) : Prop := ∃ o, H a = some (.frz o (.tup (ts.map V.ref))) ∧ o.dict = none
theorem UTup.same {H H' : Hp} {a : Addr} {ts : List Addr} (s : Same H H') (h : UTup H a ts) : UTup H' a ts := by
  obtain ⟨o, e, d⟩ := h
  exact ⟨o, s _ _ e, d⟩
theorem UTup.sqt {K : PySem.W.Frag} {H : Hp} {a : Addr} {ts : List Addr} (h : UTup H a ts) : SqT K H a (ts.map V.ref) := by
  obtain ⟨o, e, d⟩ := h
  exact .inl (.inr ⟨o, e⟩)
def rItemsT1 : V → Hp → VK → Prop := fun x H Q => ∃ (d : Addr) (kvs : List (Key × V)), x = .ref d ∧ H d = some (.dK kvs) ∧
  ∀ (H' : Hp) (p : Addr) (ts : List Addr), Same H H' → H p = none → UTup H' p ts → Paired (fun (t : Addr) (q : Key × V) => H' t = some (.tup [kV q.1, q.2])) ts kvs → Q (.ref p) H'
def tTupItems (te : TE) : TE := fun σ H Q => te σ H fun x H1 => rItemsT1 x H1 Q
section
variable {X : Cx} {e : Expr} {te : TE} {p apos cpos pos : Pos}
theorem items_laid2 {pins : List (Addr × Obj)} {σ : L2.St} {H : Hp} {s : Shared} {h' : Heap} {tk : Nat} {kvs : List (Key × V)} {vs : List (Key × Value)} {lo : Nat} {as : List Addr} (I : Inv X pins σ H s) (kv : KV kvs vs) (hlo : s.heap.objs.size ≤ lo)
    (hk : ∀ b o, s.heap.get? b = some o → h'.get? b = some o) (hl : as.length = vs.length) (hG : PySem.W.KdxG (mixKind X.prog X.w) vs lo h' as) :
    ∃ H' : Hp, Same H H' ∧ Paired (fun (t : Addr) (q : Key × V) => H' t = some (.tup [kV q.1, q.2])) as kvs ∧ Inv X pins σ H' { s with heap := h', toks := tk } := by
  have lk : kvs.length = vs.length := Paired.length kv
  have nd : as.Nodup := List.Pairwise.imp (fun {a b} (h : a < b) => Nat.ne_of_lt h) hG.rise
  have new : ∀ t ∈ as, H t = none := fun t ht => I.hok.fresh (Nat.le_of_lt (Nat.lt_of_le_of_lt hlo (hG.above t ht)))
  have atP := LiI.putT_at as kvs H (by omega) nd
  have off : ∀ b, b ∉ as → LiI.putT H as kvs b = H b := fun b h1 => LiI.putT_off as kvs _ h1
  have low : ∀ b o, s.heap.get? b = some o → b ∉ as := fun b o e z => absurd (Heap.lt_size e) (Nat.not_lt.mpr (Nat.le_of_lt (Nat.lt_of_le_of_lt hlo (hG.above b z))))
  have kp : ∀ b u, H b = some u → (LiI.putT H as kvs) b = some u := fun b u e => by
    rw [off b (fun z => by rw [new b z] at e; cases e)]
    exact e
  refine ⟨LiI.putT H as kvs, kp, atP, ?_⟩
  refine I.call' (ch := []) rfl ⟨fun b o q _ _ _ => hk b o q, fun b o q _ _ _ => ⟨o.slots, hk b o q⟩, fun b o q n _ => ?_, fun b o q _ => ⟨o, hk b o q⟩, fun b xs q => kp b _ q, fun b o u q => kp b _ q, fun b ps q => ⟨#[], by rw [kp b _ q]; simp⟩⟩ (fun b u q => ?_) I.bare fun b z => by simp at z
  · rw [off b (low b o q)]
    exact n
  · by_cases hb : b ∈ as
    · obtain ⟨j, pk, e1, e2, e3⟩ := LiI.paired_ix atP hb
      rw [e3] at q
      cases q
      obtain ⟨key, k, x, f1, f2, f3⟩ := hG.pairs j b e1
      obtain ⟨qv, g1, g2, g3⟩ := LiI.paired_get kv e2
      rw [f1] at g1
      cases g1
      have rk : RelV (kV pk.1) key := by
        rw [g2]
        exact relV_key (show keyIs k key = true from f2)
      exact ⟨by show 2 ≤ sizeLine; decide, [key, x], .cons rk (.cons g3 .nil), ⟨_, f3, rfl, _, rfl⟩⟩
    · rw [off b hb] at q
      exact (I.hok b u q).stay (fun d v _ y => hk d v y) (fun d y => kp d _ y) fun d xs y => kp d _ y
theorem pe_tupItems (hc : X.calm = true) (he : PE X e te) (hg : Gl X "tuple") (hm : X.mg "tuple" = none) (hv : bootBuiltins "tuple" = some (.type "tuple")) (hbase : attributeBase e "items" X.env (eval e X.env) = eval e X.env := by rfl) (hline : (apos.endLine == cpos.line) = true := by rfl)
    (hs : starEach [.Call (.Attribute e "items" apos) [] [] cpos] X.env = (false, eval (.Call (.Attribute e "items" apos) [] [] cpos) X.env) :: starEach [] X.env := by rfl) :
    PE X (.Call (.Name "tuple" p) [.Call (.Attribute e "items" apos) [] [] cpos] [] pos) (tTupItems te) := by
  refine ⟨fun pins s σ H Q I hq => ?_⟩
  refine wpAny_Call_Name_kw (ld_blt I hg hm hv ?_)
  refine PyProof.Rows.callWith_type1 ?_ hs rfl
  rw [hs]
  show wpAny _ _ (spliced ((false, eval (.Call (.Attribute e "items" apos) [] [] cpos) X.env) :: backTo pos (starEach [] X.env))) _ _ s
  refine Calls.spliced_cons ?_
  refine wpAny_Call_method (T := "dict") (id := "dict.items") hbase rfl hline F.plainAttrs_dict F.slot_dict_items F.type_dict_items (thn (he.run pins s σ H _ I hq) fun u s1 ⟨x, H1, I1, rx, d, kvs, ex, hd, q⟩ => ?_)
  subst ex
  obtain rfl : u = Value.ref d := rx
  obtain ⟨hz, hs0, vs, kv, hdo⟩ := I1.hok d _ hd
  obtain ⟨ep, hat⟩ := hdo.dictAt
  have lk : kvs.length = vs.length := Paired.length kv
  have I2 : Inv X pins σ H1 { s1 with heap := s1.heap.push { cls := .type "dict_items", data := .fields #[.ref d] } } := I1.kept (t' := s1.toks) fun b ob q => Heap.get?_push_of_some _ q
  refine ⟨hdo.typeIs, hdo.mapOf.noDict, ?_⟩
  show wpAny _ _ (callWith cpos (.builtin "dict.items") [.ref d] [] []) _ X.xe s1
  refine method_meetsIn F.slot_dict_items F.entry_dict_items rfl (PySem.evalArgs_none ⟨rfl, hdo.typeIs, F.args_dict_items_1 _, _, meets_dict_items (mixKind X.prog X.w) d hs0, ⟨vs, hdo⟩, ?_⟩)
  refine Calls.spliced_nil ?_
  refine call_tup_items (kvs := vs) (ep := ep) (I1.ok.hd hc) ⟨_, Heap.get?_push_size _ rfl, rfl, rfl⟩ (hat.push _) (by omega) fun h' tk as hk hl hG => ?_
  obtain ⟨H', k1, k6, J⟩ := items_laid2 (tk := tk) I2 kv (Nat.le_refl _) hk hl hG
  have e : as.length = kvs.length := by omega
  have J2 : Inv X pins σ (upd H' h'.objs.size (.frz { cls := .type "tuple", data := .seq (as.map Value.ref).toArray } (.tup (as.map V.ref)))) { s1 with heap := h'.push { cls := .type "tuple", data := .seq (as.map Value.ref).toArray }, toks := tk } :=
    J.laid (t' := tk) (fun b o e => Heap.get?_push_of_some _ e) (Nat.le_refl _) ⟨Heap.get?_push_size _ rfl, (show ObjOk X.prog X.w _ _ _ (.tup (as.map V.ref)) from ⟨by rw [List.length_map]; omega, _, LiI.vals_refs as, IsTup.new _ _⟩)⟩
  have nP : H' h'.objs.size = none := J.hok.fresh (Nat.le_refl _)
  exact ⟨.ref _, _, J2, rfl, q _ _ as (k1.trans (Same.new nP)) (k1.free nP) ⟨_, upd_same, rfl⟩ (Paired.imp2 (fun t q h => by rw [upd_ne (ne_of_none h nP)]; exact h) k6)⟩
/-! ### dict(a tuple of pairs) -/
theorem call_dictPT (hcalm : X.calm = true) : CallR X (.type "dict") (fun xs H Q => ∃ (a : Addr) (ps : List Addr) (kvs : List (Key × V)), xs = [.ref a] ∧ UTup H a ps ∧ Paired (fun p kv => SqT X.K H p [kV kv.1, kv.2]) ps kvs ∧
    ∀ p, H p = none → Q (.ref p) (upd H p (.dK (mergeK [] kvs)))) := by
  intro pins s σ H xs us Q I r q
  obtain ⟨a, ps, kvs, ex, ⟨o, hq, hdn⟩, hp, q⟩ := q
  subst ex
  obtain ⟨u, eu, rx⟩ := vals1 r
  subst eu
  cases rx
  obtain ⟨ho, hz, its, rv, o', ho', hc, n, hdat⟩ := I.hok a _ hq
  obtain rfl : o = o' := Option.some.inj (ho.symm.trans ho')
  have ei := refs_at rv
  subst ei
  rw [List.length_map] at hz
  obtain ⟨prs, rel, hl, hpr⟩ := pairs_of I hp
  have hps : ∀ (j : Nat) (q' : Key × Value), prs[j]? = some q' → ∃ (b : Addr) (u : Value), ps[j]? = some b ∧ IsTup s.heap b #[u, q'.2] ∧ keyIs q'.1 u = true := hpr
  have hch : ∀ j : Nat, ∃ u : Value × Value, ∀ q', prs[j]? = some q' → (∃ b, ps[j]? = some b ∧ IsTup s.heap b #[u.1, u.2]) ∧ u.2 = q'.2 ∧ keyIs q'.1 u.1 = true := fun j => by
    cases e : prs[j]? with
    | none => exact ⟨(.none, .none), fun q' z => by cases z⟩
    | some q' =>
      obtain ⟨b, u, e1, e2, e3⟩ := hps j q' e
      exact ⟨(u, q'.2), fun q2 z => by cases z; exact ⟨⟨b, e1, e2⟩, rfl, e3⟩⟩
  obtain ⟨f, hf⟩ := Classical.axiomOfChoice hch
  have hlen : ((List.range prs.length).map f).length = prs.length := by simp
  have hget : ∀ (j : Nat) (k v : Value), ((List.range prs.length).map f)[j]? = some (k, v) → ∃ q', prs[j]? = some q' ∧ f j = (k, v) := fun j k v e => by
    have hj : j < prs.length := by
      have := (List.getElem?_eq_some_iff.mp e).1
      simpa using this
    rw [List.getElem?_map, List.getElem?_range hj] at e
    exact ⟨prs[j], List.getElem?_eq_getElem hj, Option.some.inj e⟩
  refine PySem.call_dict_pairs (T := "tuple") (knd := mixKind X.prog X.w) (kvs := prs) (PairArg.tuple a (ps.map Value.ref).toArray (fun j => ps.getD j 0) ((List.range prs.length).map f)) (I.ok.hd hcalm) ⟨⟨o, n, ho, hc, hdn, hdat⟩, by simp [hl], fun j k v e => ?_⟩ ⟨hlen.symm, fun j k v e => ?_⟩ (by rw [hlen, hl]; exact hz) fun h' tk hd' kp => ?_
  · obtain ⟨q', e1, e2⟩ := hget j k v e
    obtain ⟨⟨b, z1, z2⟩, z3, z4⟩ := hf j q' e1
    rw [e2] at z2
    refine ⟨?_, .inl ?_⟩
    · simp [z1]
    · show s.heap.IsTuple (ps.getD j 0) #[k, v]
      rw [List.getD_eq_getElem?_getD, z1]
      exact z2
  · obtain ⟨q', e1, e2⟩ := hget j k v e
    obtain ⟨⟨b, z1, z2⟩, z3, z4⟩ := hf j q' e1
    rw [e2] at z3 z4
    refine ⟨q'.1, ?_, z4⟩
    rw [e1]
    have e3 : v = q'.2 := z3
    rw [e3]
  · have hm : (s.heap.objs.size == sysModules) = false := beq_eq_false_iff_ne.mpr (Nat.ne_of_gt I.big)
    have hlen2 : (mergeK [] kvs).length ≤ sizeLine := by
      refine Nat.le_trans (length_mergeK kvs []) ?_
      rw [List.length_nil, Nat.zero_add, rel.length, hl]
      exact hz
    exact ⟨.ref s.heap.objs.size, upd H s.heap.objs.size (.dK (mergeK [] kvs)), I.laid (t' := tk) (fun b o e => kp b o (by simp) e) (Nat.le_refl _) (show ObjOk X.prog X.w _ _ _ (.dK (mergeK [] kvs)) from ⟨hlen2, hm, merged [] prs, KV.merge rel .nil, hd'⟩), rfl, q _ (I.hok.fresh (Nat.le_refl _))⟩
end
end Kf

set_option Elab.async false
set_option linter.all false
set_option maxRecDepth 100000
set_option maxHeartbeats 2000000
namespace Kf
open PySem PySem.Spec PyProof.Rows L2 LamX NdefX TL
/-- a dict with a plant's four things -/
structure MX (K : PySem.W.Frag) (H : Hp) (m : Addr) (ps : List (Str × Str)) (cs : List (Str × List Str)) (gs : List G) (tp : Str) : Prop where
  ex : ∃ kvs pa ca ga xs zs ys, H m = some (.dK kvs) ∧ valV kvs (.inr "parts") = some (.ref pa) ∧ valV kvs (.inr "causes") = some (.ref ca) ∧ valV kvs (.inr "gates") = some (.ref ga) ∧ valV kvs (.inr "top") = some (.str tp) ∧
    H pa = some (.lst xs) ∧ Each (PartAt K H) xs ps ∧ H ca = some (.lst zs) ∧ Each (CauseAt K H) zs cs ∧ H ga = some (.lst ys) ∧ Each (GateAt K H) ys gs
theorem M4.mx {K : PySem.W.Frag} {d L : Addr} {H : Hp} {m : Addr} {ps : List (Str × Str)} {cs : List (Str × List Str)} {gs : List G} {tp : Str} (h : M4 K d L H m ps cs gs tp) : MX K H m ps cs gs tp := by
  obtain ⟨pa, ca, ga, xs, zs, ys, hm, h1, e1, h2, e2, h3, e3, _⟩ := h.ex
  exact ⟨_, pa, ca, ga, xs, zs, ys, hm, mk4_p, mk4_c, mk4_g, mk4_t, h1, e1, h2, e2, h3, e3⟩
theorem MX.sm {T : List NTab} {K : PySem.W.Frag} {H H' : Hp} {m : Addr} {ps : List (Str × Str)} {cs : List (Str × List Str)} {gs : List G} {tp : Str} (h : MX K H m ps cs gs tp) (s : Sm T H H') : MX K H' m ps cs gs tp := by
  obtain ⟨kvs, pa, ca, ga, xs, zs, ys, hm, v1, v2, v3, v4, h1, e1, h2, e2, h3, e3⟩ := h.ex
  exact ⟨kvs, pa, ca, ga, xs, zs, ys, s.lst hm (by intro _ z; cases z), v1, v2, v3, v4, s.lst h1 (by intro _ z; cases z), e1.imp fun _ _ r => PartAt.kt s.kt r, s.lst h2 (by intro _ z; cases z), e2.imp fun _ _ r => CauseAt.kt s.kt r, s.lst h3 (by intro _ z; cases z), e3.imp fun _ _ r => GateAt.kt s.kt r⟩
section
variable {P : Program} {w : World} {K : PySem.W.Frag} {mg : Str → Option Value} {base : Heap}
/-- a class that is made by its name -/
structure MakC (P : Program) (w : World) (K : PySem.W.Frag) (mg : Str → Option Value) (base : Heap) (k : Nat) (x : Str) (C : Addr) (ps : List Str) (sp : Sp) : Prop where
  ex : ∃ f fd, Mk K C f ∧ mg x = some (.ref C) ∧ Binds K fd ps [] ∧ FnOk P w K mg base CX0 k f fd ps sp
theorem pe_mak {X : Cx} {k j : Nat} {x : Str} {C : Addr} {ps : List Str} {sp : Sp} {p pos : Pos} {e : Expr} {es : List Expr} {t : TA} (M : MakC X.prog X.w X.K X.mg X.base k x C ps sp) (hk : k + 1 ≤ j) (hr : Room j X.A) (hg : Gl X x) (ha : PA X (e :: es) t) (hdb : (x == ("__debug__" : Str)) = false := by decide)
    (he : starEach (e :: es) X.env = (false, eval e X.env) :: starEach es X.env := by rfl) (hpl : (backTo pos (starEach es X.env)).any (·.1) = false := by rfl) : PE X (.Call (.Name x p) (e :: es) [] pos) (tMake C sp [] E0 t) := by
  obtain ⟨f, fd, mk, m, b, F⟩ := M.ex
  exact pe_make mk F (hr.mono hk) hg m b .nil pass0 ha hdb he hpl
def spMade (K : PySem.W.Frag) (C : Addr) (T0 : List NTab) : Sp := fun vs H Q _ => ∃ m ps cs gs tp, vs = [.ref m] ∧ MX K H m ps cs gs tp ∧ PlantOk ps gs cs tp ∧ TabsN T0 H ∧ ∀ H' p, Sm T0 H H' → H p = none → PlObj K C H' p ps gs cs tp → Q (.ref p) H'
theorem ok_law_made {f C : Addr} {fd : FuncData} {T0 : List NTab} (F : L2.Fun K "_law_made" "_law_made" s__law_made f fd) (T : Nm mg) (M : MakC P w K mg base 6 "Plant" C ["self", "parts", "gates", "causes", "top"] (spInit K C T0)) : FnOk P w K mg base CX0 8 f fd ["m"] (spMade K C T0) := by
  refine F.ok sc__law_made (fun vs H Q E h => ?_) (fun cdv A outer s H vs Q E hr h => ?_)
  · obtain ⟨m, ps, cs, gs, tp, rfl, _⟩ := h
    rfl
  · obtain ⟨m, ps, cs, gs, tp, rfl, hM, ok, hT, q⟩ := h
    have hu := hu_of hr
    obtain ⟨kvs, pa, ca, ga, xs, zs, ys, hm, v1, v2, v3, v4, h1, e1, h2, e2, h3, e3⟩ := hM.ex
    refine ⟨_, pss_one (ps_ret (pe_mak M (by decide) hr (by rfl) (pa_cons (pe_dget hu (pv 0) pe_str (fun _ _ => rfl)) (pa_cons (pe_dget hu (pv 0) pe_str (fun _ _ => rfl)) (pa_cons (pe_dget hu (pv 0) pe_str (fun _ _ => rfl)) (pa_cons (pe_dget hu (pv 0) pe_str (fun _ _ => rfl)) pa_nil)))))), ?_⟩
    refine ⟨.ref m, rfl, m, .ref pa, rfl, gK hm v1, .ref m, rfl, m, .ref ga, rfl, gK hm v3, .ref m, rfl, m, .ref ca, rfl, gK hm v2, .ref m, rfl, m, .str tp, rfl, gK hm v4, fun x dx nx ndx nex => ?_⟩
    have s1 : Same H (upd (upd H dx (.own x)) x (.ins C dx [])) := fun b o e => by
      rw [upd_ne (ne_of_none e nx), upd_ne (ne_of_none e ndx)]
      exact e
    refine ⟨x, dx, pa, xs, ps, ga, ys, gs, ca, zs, cs, tp, rfl, upd_same, .inl (.of (s1 _ _ h1)), e1.imp fun _ _ r => PartAt.kt (Same.kt s1) r, .inl (.of (s1 _ _ h3)), e3.imp fun _ _ r => GateAt.kt (Same.kt s1) r, .inl (.of (s1 _ _ h2)), e2.imp fun _ _ r => CauseAt.kt (Same.kt s1) r, ok, hT.ext s1, fun H' pa' ga' ca' sx hx t1 t2 t3 => ⟨rfl, ?_⟩⟩
    have sm : Sm T0 H H' := ⟨fun b o e n => sx.kp b o (s1 _ _ e) n (ne_of_none e nx), fun b e => s1.free (sx.nn b e), fun t => sx.tb (t.ext s1)⟩
    exact q H' x sm nx ⟨dx, pa', ga', ca', xs, ys, zs, hx, t1, e1.imp fun _ _ r => PartAt.kt sm.kt r, t2, e3.imp fun _ _ r => GateAt.kt sm.kt r, t3, e2.imp fun _ _ r => CauseAt.kt sm.kt r⟩
/-- a property of the class -/
structure PropC (P : Program) (w : World) (K : PySem.W.Frag) (mg : Str → Option Value) (base : Heap) (C : Addr) (x f : Str) : Prop where
  ex : ∃ p g fd, PropOf K C x p g ∧ Binds K fd ["self"] [] ∧ FnOk P w K mg base CX0 1 g fd ["self"] (getSp C f)
theorem pe_propC {X : Cx} {j : Nat} {C : Addr} {x f : Str} {e : Expr} {pos : Pos} {ta : TE} (R : PropC X.prog X.w X.K X.mg X.base C x f) (c : Cls X.K C) (hj : 2 ≤ j) (hr : Room j X.A) (he : PE X e ta) (hab : attributeBase e x X.env (eval e X.env) = eval e X.env) : PE X (.Attribute e x pos) (tProp C (getSp C f) [] E0 ta) := by
  obtain ⟨p, g, fd, hp, b, F⟩ := R.ex
  exact pe_prop he c hp F (hr.mono hj) b .nil (fun _ _ _ _ _ _ _ z => z.elim) hab
/-- a promise where no guard stands around -/
structure FnOkG (P : Program) (w : World) (K : PySem.W.Frag) (mg : Str → Option Value) (base : Heap) (k : Nat) (f : Addr) (fd : FuncData) (ps : List Str) (sp : Sp) : Prop where
  len : ∀ vs H Q E, sp vs H Q E → vs.length = ps.length
  run : ∀ (A : Around) (outer : List Env) (s : Shared) (H : Hp) (args : Args) (us : List Value) (vs : List V) (Q : VK) (E : XK), Room k A → A.guards = some [] → Env0 P w K mg base A outer s H → BindsTo s fd args (ps.zip us) → Vals vs us → sp vs H Q E →
    codeAny (model P w) A (.call (.ref f) args) (CR CX0 outer P w H s Q E) s
theorem okG {x qual : Str} {st : Stmt} {f : Addr} {fd : FuncData} {N ps : List Str} {k : Nat} {sp : Sp} (F : L2.Fun K x qual st f fd) (S : FnScope N ps (defScope st)) (len : ∀ vs H Q E, sp vs H Q E → vs.length = ps.length)
    (hbody : ∀ (cdv : Value) (A : Around) (outer : List Env) (s : Shared) (H : Hp) (vs : List V) (Q : VK) (E : XK), Room k (A.deeper (envOfC qual (defScope st) s.heap.objs.size f cdv)) → (A.deeper (envOfC qual (defScope st) s.heap.objs.size f cdv)).guards = some [] → sp vs H Q E →
      ∃ t, PSs (cxOf CX0 P w K mg base N qual (defScope st) f cdv A outer s H E).nox (defBody st) t ∧ t { nx := fun _ H' => Q .non H', rt := Q } (L2.start N vs) H) : FnOkG P w K mg base (k + 1) f fd ps sp := by
  obtain ⟨oc, od, kV, doc, pm, an, cdv, ct, osl, rfl, lk, hcd⟩ := F.ex
  refine ⟨len, fun A outer s H args us vs Q E hr hg e0 hb r hsp => ?_⟩
  refine run_ofS lk hcd S hr e0 hb r (len _ _ _ _ hsp) fun hr' => ?_
  obtain ⟨t, h, q⟩ := hbody cdv A outer s H vs Q E hr' hg hsp
  exact ⟨t, h.nox, q⟩
end
/-! ### what a turn needs -/
theorem tNext_of {D : Ends} {σ : L2.St} {H : Hp} (h : D.nx σ H) : tNext D σ H := h
theorem lst_upd {H : Hp} {p b : Addr} {c l : List V} (h : H b = some (.lst c)) : ∃ c', (upd H p (.lst l)) b = some (.lst c') := by
  by_cases e : b = p
  · subst e
    exact ⟨l, upd_same⟩
  · exact ⟨c, by rw [upd_ne e]; exact h⟩
theorem Sm.at {T : List NTab} {H H' : Hp} {p : Addr} {l l' : List V} (s : Sm T H H') (h : H p = none) (h2 : H' p = some (.lst l)) : Sm T H (upd H' p (.lst l')) :=
  ⟨fun b o e n => by rw [upd_ne (ne_of_none e h)]; exact s.kp b o e n, fun b e => s.nn b (upd_none e), fun t => tabs_upd h2 (by intro _ z; cases z) (by intro _ z; cases z) (s.tb t)⟩
theorem kp_tabs {T : List NTab} {d L C : Addr} {H H' : Hp} (D : Dr H d L C) (k : Kp d L H H') (t : TabsN T H) : TabsN T H' := fun p hp => by
  obtain ⟨ps, a1, a2, a3⟩ := t p hp
  obtain ⟨_, _, _, _, _, D⟩ := D
  refine ⟨ps, k _ _ a1 (ne_of a1 D.hd (by intro z; cases z)) (ne_of a1 D.hL (by intro z; cases z)), a2, fun p' cv hc => ?_⟩
  obtain ⟨c, e1, e2⟩ := a3 p' cv hc
  exact ⟨c, e1, k _ _ e2 (ne_of e2 D.hd (by intro z; cases z)) (ne_of e2 D.hL (by intro z; cases z))⟩
theorem Dr.sm {T : List NTab} {d L C : Addr} {H H' : Hp} (D : Dr H d L C) (s : Sm T H H') : Dr H' d L C := by
  obtain ⟨ls, cs, r, t, m, D⟩ := D
  exact ⟨ls, cs, r, t, m, { D with hd := s.lst D.hd (by intro _ z; cases z), hL := s.lst D.hL (by intro _ z; cases z), hC := s.lst D.hC (by intro _ z; cases z) }⟩
section
variable {K : PySem.W.Frag} {T : List NTab} {d L C : Addr} {H H' : Hp} {m x : Addr} {ps : List (Str × Str)} {cs : List (Str × List Str)} {gs : List G} {tp : Str}
theorem M4.sm (h : M4 K d L H m ps cs gs tp) (s : Sm T H H') : M4 K d L H' m ps cs gs tp := by
  obtain ⟨pa, ca, ga, xs, zs, ys, hm, h1, e1, h2, e2, h3, e3, n⟩ := h.ex
  exact ⟨pa, ca, ga, xs, zs, ys, s.lst hm (by intro _ z; cases z), s.lst h1 (by intro _ z; cases z), e1.imp fun _ _ r => PartAt.kt s.kt r, s.lst h2 (by intro _ z; cases z), e2.imp fun _ _ r => CauseAt.kt s.kt r, s.lst h3 (by intro _ z; cases z), e3.imp fun _ _ r => GateAt.kt s.kt r, n⟩
theorem M4.kp {Cc : Addr} (h : M4 K d L H m ps cs gs tp) (D : Dr H d L Cc) (k : Kp d L H H') : M4 K d L H' m ps cs gs tp := by
  obtain ⟨pa, ca, ga, xs, zs, ys, hm, h1, e1, h2, e2, h3, e3, n0, n1, n2, n3⟩ := h.ex
  have mL : m ≠ L := by
    obtain ⟨_, _, _, _, _, D⟩ := D
    exact ne_of hm D.hL (by intro z; cases z)
  exact ⟨pa, ca, ga, xs, zs, ys, k _ _ hm n0 mL, k.lst D n1 h1, e1.imp fun _ _ r => PartAt.kt (k.kt D) r, k.lst D n2 h2, e2.imp fun _ _ r => CauseAt.kt (k.kt D) r, k.lst D n3 h3, e3.imp fun _ _ r => GateAt.kt (k.kt D) r, n0, n1, n2, n3⟩
theorem PlObj.sm (h : PlObj K C H x ps gs cs tp) (s : Sm T H H') : PlObj K C H' x ps gs cs tp := h.kt s.kt fun _ _ _ e => s.lst e (by intro _ z; cases z)
theorem PlObj.kp {Cc : Addr} (h : PlObj K C H x ps gs cs tp) (D : Dr H d L Cc) (k : Kp d L H H') : PlObj K C H' x ps gs cs tp := h.kt (k.kt D) fun _ _ _ e => by
  obtain ⟨_, _, _, _, _, D⟩ := D
  exact k _ _ e (ne_of e D.hd (by intro z; cases z)) (ne_of e D.hL (by intro z; cases z))
theorem PlObj.lset (h : PlObj K C H x ps gs cs tp) {a : Addr} {l l' : List V} (ha : H a = some (.lst l)) : PlObj K C (upd H a (.lst l')) x ps gs cs tp := h.kt (kt_lst ha) fun _ _ _ e => by
  rw [upd_ne (ne_of e ha (by intro z; cases z))]
  exact e
end
end Kf

set_option Elab.async false
set_option linter.all false
set_option maxRecDepth 100000
set_option maxHeartbeats 2000000
namespace Kf
open PySem PySem.Spec PyProof.Rows L2 LamX NdefX TL
/-! ## runs.py: a state, and what is told of it -/
def KeysNd (us : Uses) : Prop := (us.map (·.1)).Nodup
theorem setA_fresh {α : Type} {l : List (Str × α)} {n : Str} {x : α} (h : n ∉ l.map (·.1)) : setA l n x = l ++ [(n, x)] := by
  unfold setA
  rw [if_neg]
  intro e
  obtain ⟨p, hp, e2⟩ := List.any_eq_true.mp e
  exact h (List.mem_map.mpr ⟨p, hp, by simpa using e2⟩)
theorem merge_dS {α : Type} (f : α → V) : ∀ (l a : List (Str × α)), ((a ++ l).map (·.1)).Nodup → mergeK (dS f a) (dS f l) = dS f (a ++ l)
  | [], a, _ => by rw [List.append_nil]; rfl
  | (n, x) :: r, a, h => by
    have h1 : n ∉ a.map (·.1) := by
      intro hm
      rw [List.map_append, List.map_cons] at h
      exact (List.nodup_append.mp h).2.2 n hm n (List.mem_cons_self ..) rfl
    have e : mergeK (dS f a) (dS f ((n, x) :: r)) = mergeK (dS f (a ++ [(n, x)])) (dS f r) := by
      show mergeK (putK (dS f a) (.inr n) (f x)) (dS f r) = _
      rw [putK_dS, setA_fresh h1]
    rw [e, merge_dS f r (a ++ [(n, x)]) (by rw [List.append_assoc]; exact h), List.append_assoc]
    rfl
theorem merge_uses {us : Uses} (h : KeysNd us) : mergeK [] (dS V.str us) = dS V.str us := merge_dS V.str us [] h
theorem pairs_at {K : PySem.W.Frag} {H H' : Hp} (f : ∀ (t : Addr) (kv : Key × V), H t = some (.tup [kV kv.1, kv.2]) → SqT K H' t [kV kv.1, kv.2]) : ∀ {ts : List Addr} {us : Uses}, Paired (fun (t : Addr) (q : Key × V) => H t = some (.tup [kV q.1, q.2])) ts (dS V.str us) → Paired (fun t (p : Str × Str) => SqT K H' t [.str p.1, .str p.2]) ts us
  | _, [], .nil => .nil
  | _, (n, x) :: r, .cons h t => .cons (f _ _ h) (pairs_at (us := r) f t)
theorem pairs_to {K : PySem.W.Frag} {H : Hp} : ∀ {ts : List Addr} {us : Uses}, Paired (fun t (p : Str × Str) => SqT K H t [.str p.1, .str p.2]) ts us → Paired (fun (t : Addr) (q : Key × V) => SqT K H t [kV q.1, q.2]) ts (dS V.str us)
  | _, _, .nil => .nil
  | _, _, .cons h t => .cons h (pairs_to t)
/-- a list of new pairs of texts, one after the other -/
structure LQ (K : PySem.W.Frag) (H1 : Hp) (D : Addr) (l : List (Str × Str)) (H : Hp) : Prop where
  sm : Same H1 H
  ex : ∃ acc, H D = some (.lst acc) ∧ Paired (PartAt K H) acc l
theorem Paired.app {α β : Type} {R : α → β → Prop} {x : α} {y : β} (h : R x y) : ∀ {xs : List α} {ys : List β}, Paired R xs ys → Paired R (xs ++ [x]) (ys ++ [y])
  | _, _, .nil => .cons h .nil
  | _, _, .cons a t => .cons a (Paired.app h t)
theorem LQ.zero {K : PySem.W.Frag} {H1 : Hp} {D : Addr} (n : H1 D = none) : LQ K H1 D [] (upd H1 D (.lst [])) := ⟨Same.new n, [], upd_same, .nil⟩
theorem LQ.put {K : PySem.W.Frag} {H1 H H4 : Hp} {D t : Addr} {l : List (Str × Str)} {p : Str × Str} (h : LQ K H1 D l H) (n : H1 D = none) (sm : Same H H4) (r : PartAt K H4 (.ref t) p) (hl : l.length ≤ 1000) : ∃ a, H4 D = some (.lst a) ∧ a.length < sizeLine ∧ LQ K H1 D (l ++ [p]) (upd H4 D (.lst (a ++ [.ref t]))) := by
  obtain ⟨acc, e, pr⟩ := h.ex
  have e4 := sm _ _ e
  have kt : KT K H4 (upd H4 D (.lst (acc ++ [.ref t]))) := kt_lst e4
  refine ⟨acc, e4, small1000 (by rw [Paired.length pr]; exact hl), Same.at (h.sm.trans sm) n, _, upd_same, ?_⟩
  exact Paired.app (r.kt kt) (Paired.imp2 (fun _ _ q => (PartAt.kt (Same.kt sm) q).kt kt) pr)
theorem LQ.skip {K : PySem.W.Frag} {H1 H H4 : Hp} {D : Addr} {l : List (Str × Str)} (h : LQ K H1 D l H) (sm : Same H H4) : LQ K H1 D l H4 := by
  obtain ⟨acc, e, pr⟩ := h.ex
  exact ⟨h.sm.trans sm, acc, sm _ _ e, Paired.imp2 (fun _ _ q => PartAt.kt (Same.kt sm) q) pr⟩
theorem sV_get {l : List Str} {i : Nat} {x : V} (h : (sV l)[i]? = some x) : ∃ (h : i < l.length), x = .str l[i] := by
  have hi : i < l.length := by simpa [sV] using (List.getElem?_eq_some_iff.mp h).1
  have : (sV l)[i]? = some (.str l[i]) := by simp [sV, hi]
  exact ⟨hi, Option.some.inj (h.symm.trans this)⟩
theorem take_sV {l : List Str} {i : Nat} (h : i < l.length) : l.take (i + 1) = l.take i ++ [l[i]] := by rw [List.take_add_one, List.getElem?_eq_getElem h]; rfl
theorem paired_at {R : Addr → Str × Str → Prop} : ∀ {ts : List Addr} {us : Uses}, Paired R ts us → ∀ {i : Nat} {x : V}, (ts.map V.ref)[i]? = some x → ∃ t u, us[i]? = some u ∧ x = .ref t ∧ R t u
  | _, _, .nil, i, x, h => by simp at h
  | t :: _, u :: _, .cons r p, 0, x, h => ⟨t, u, rfl, (Option.some.inj h).symm, r⟩
  | _ :: _, _ :: _, .cons r p, i + 1, x, h => paired_at p (i := i) (by simpa using h)
/-- a state: the tuple (failed, uses, held) -/
structure StAt (K : PySem.W.Frag) (H : Hp) (v : V) (fl : List Str) (us : Uses) (hd : List Str) : Prop where
  ex : ∃ a b c d ts, v = .ref a ∧ SqT K H a [.ref b, .ref c, .ref d] ∧ SqT K H b (sV fl) ∧ UTup H c ts ∧ Paired (fun t (p : Str × Str) => SqT K H t [.str p.1, .str p.2]) ts us ∧ SqT K H d (sV hd)
theorem Sm.utup {T : List NTab} {H H' : Hp} {a : Addr} {ts : List Addr} (s : Sm T H H') (h : UTup H a ts) : UTup H' a ts := by
  obtain ⟨o, e, d⟩ := h
  exact ⟨o, s.kp _ _ e (by intro _ z; cases z), d⟩
theorem StAt.sm {T : List NTab} {K : PySem.W.Frag} {H H' : Hp} {v : V} {fl : List Str} {us : Uses} {hd : List Str} (s : Sm T H H') (h : StAt K H v fl us hd) : StAt K H' v fl us hd := by
  obtain ⟨a, b, c, d, ts, e, h1, h2, h3, h4, h5⟩ := h.ex
  exact ⟨a, b, c, d, ts, e, s.sqt h1, s.sqt h2, s.utup h3, Paired.imp2 (fun _ _ r => s.sqt r) h4, s.sqt h5⟩
theorem StAt.same {K : PySem.W.Frag} {H H' : Hp} {v : V} {fl : List Str} {us : Uses} {hd : List Str} (s : Same H H') (h : StAt K H v fl us hd) : StAt K H' v fl us hd := h.sm (Same.sm (T := []) s)
section
variable {P : Program} {w : World} {K : PySem.W.Frag} {mg : Str → Option Value} {base : Heap}
def spBeginning (K : PySem.W.Frag) (C : Addr) : Sp := fun vs H Q _ => ∃ a ps gs cs tp, vs = [.ref a] ∧ PlObj K C H a ps gs cs tp ∧ gs.length ≤ 1000 ∧ (∀ n qs, G.spare n qs ∈ gs → qs.length ≤ 1000) ∧ ∀ H' v, Same H H' → StAt K H' v [] (firstU gs) [] → Q v H'
theorem ok_beginning {f C : Addr} {fd : FuncData} (F : L2.Fun K "beginning" "beginning" s_beginning f fd) (T : Nm mg) (L : PlC K mg C) (R_gates : PropC P w K mg base C "gates" "_gates") (C_first_uses : Cal P w K mg base 2 "first_uses" ["gates"] (spFirst K)) :
    FnOk P w K mg base CX0 3 f fd ["plant"] (spBeginning K C) := by
  refine F.ok sc_beginning (fun vs H Q E h => ?_) (fun cdv A outer s H vs Q E hr h => ?_)
  · obtain ⟨a, ps, gs, cs, tp, rfl, _⟩ := h
    rfl
  · obtain ⟨a, ps, gs, cs, tp, rfl, ho, hg, hq, q⟩ := h
    obtain ⟨dx, pa, ga, ca, xs, ys, zs, h0, h1, e1, h2, e2, h3, e3⟩ := ho.ex
    refine ⟨_, (pss_one (ps_ret (pe_tup (pa_cons (pe_tup pa_nil) (pa_cons (pe_tupItems rfl (pe_cal C_first_uses (by decide) hr (by rfl) (pa_cons (pe_propC R_gates L.cl (by decide) hr (pv 0) rfl) pa_nil)) (by rfl) T.n_tuple (by decide +kernel)) (pa_cons (pe_tup pa_nil) pa_nil)))))), ?_⟩
    refine ⟨Nat.zero_le _, fun e ne => ?_⟩
    have s1 : Same H (upd H e (.tup [])) := Same.new ne
    refine ⟨.ref a, rfl, a, dx, _, rfl, s1 _ _ h0, a, dx, _, _, rfl, s1 _ _ h0, plF_g, ?_⟩
    refine ⟨ga, ys, gs, rfl, .inr (Same.sqt s1 h2), e2.imp fun _ _ r => GateAt.kt (Same.kt s1) r, hg, hq, fun H2 u s2 nu hu2 => ?_⟩
    refine ⟨u, _, rfl, hu2, fun H3 p ts s3 np hp hts => ?_⟩
    refine ⟨Nat.zero_le _, fun e2 ne2 => ?_⟩
    refine ⟨by show 3 ≤ sizeLine; decide, fun p3 np3 => ?_⟩
    have s4 : Same H3 (upd H3 e2 (.tup [])) := Same.new ne2
    have s5 : Same (upd H3 e2 (.tup [])) (upd (upd H3 e2 (.tup [])) p3 (.tup [.ref e, .ref p, .ref e2])) := Same.new np3
    have s45 := s4.trans s5
    refine q _ _ (s1.trans (s2.trans (s3.trans s45))) ⟨p3, e, p, e2, ts, rfl, .of upd_same, .of (s45 _ _ (s3 _ _ (s2 _ _ upd_same))), hp.same s45, ?_, .of (s5 _ _ upd_same)⟩
    exact pairs_at (us := firstU gs) (fun t kv h => .of (s45 _ _ h)) hts
/-- the truths of a state -/
def bfHeld (hd : List Str) : G → Tr → Bool := fun g _ => decide (g.name ∈ hd)
def truthsIn (ps : List (Str × Str)) (gs : List G) (fl : List Str) (us : Uses) (hd : List Str) : Tr := tellM (bfHeld hd) fl us ps gs
/-- a lambda that asks whether a gate stands in what it has captured -/
def spLamH (K : PySem.W.Frag) : List (Option V) → List V → Hp → VK → Prop := fun ws vs H Q => ∃ v b d hd n x y, ws = [some (.ref d)] ∧ vs = [v, .ref b] ∧ GateAt K H v (.before n x y) ∧ SqT K H d (sV hd) ∧ ∀ H', Same H H' → Q (.bl (decide (n ∈ hd))) H'
def spTruthsIn (K : PySem.W.Frag) (C : Addr) (T0 : List NTab) : Sp := fun vs H Q _ => ∃ a v ps gs cs tp fl us hd, vs = [.ref a, v] ∧ PlObj K C H a ps gs cs tp ∧ StAt K H v fl us hd ∧ KeysNd us ∧ TellOk ps us gs ∧ TabsN T0 H ∧
  ∀ H' p, Sm T0 H H' → H p = none → H' p = some (.dK (dS V.bl (truthsIn ps gs fl us hd))) → Q (.ref p) H'
def lamTI : Scope := { kind := .function, names := [("gate", .local), ("told", .local), ("held", .free)], isGenerator := false, isCoroutine := false }
theorem free_TI : ∀ y ∈ lamTI.names, y.2 = .free → (defScope s_truths_in).names.lookup y.1 = some .cell ∨ (defScope s_truths_in).names.lookup y.1 = some .free := by decide +kernel
theorem fr_TI : ∀ y ∈ [("held" : Str)], (y, NameKind.free) ∈ lamTI.names := by decide +kernel
theorem qn_truths_in : ("truths_in.<locals>.<lambda>" : Str) = (("truths_in" : Str) ++ ".<locals>.") ++ "<lambda>" := by decide +kernel
theorem ok_truths_in {f c C Pt : Addr} {fd : FuncData} {T0 : List NTab} {nm : Nat → Nat → Str} (F : FunC K "truths_in" "truths_in" s_truths_in f fd c) (T : Nm mg) (L : PlC K mg C) (TB : TabB base mg c Pt) (hm : (Pt, nm) ∈ T0) (hn : ∀ i j, nm i j = "truths_in.<locals>.<lambda>") (hun : ∀ p ∈ T0, p.1 = Pt → p.2 = nm)
    (R_parts : PropC P w K mg base C "parts" "_parts") (R_gates : PropC P w K mg base C "gates" "_gates") (C_tell : CalS P w K mg base 4 "tell" ["parts", "gates", "failed", "uses", "before"] (spTell P w K mg base)) :
    FnOk P w K mg base CX0 5 f fd ["plant", "state"] (spTruthsIn K C T0) := by
  refine okC F sc_truths_in (fun vs H Q E h => ?_) (fun A outer s H vs Q E hr h => ?_)
  · obtain ⟨a, v, ps, gs, cs, tp, fl, us, hd, rfl, _⟩ := h
    rfl
  · obtain ⟨a, v, ps, gs, cs, tp, fl, us, hd, rfl, ho, hst, hnd, ok, hT, q⟩ := h
    obtain ⟨dx, pa, ga, ca, xs, ys, zs, h0, h1, e1, h2, e2, h3, e3⟩ := ho.ex
    obtain ⟨sa, sb, sc, sd, ts, rfl, t1, t2, t3, t4, t5⟩ := hst.ex
    refine ⟨_, (pss_cons (ps_asg (pv 1) (pg_tupK (K := K) (n := 3) rfl rfl (pgs_cons (pg_name (i := 2) sc_truths_in.nd rfl (.inl rfl)) (pgs_cons (pg_name (i := 3) sc_truths_in.nd rfl (.inl rfl)) (pgs_cons (pg_name (i := 4) sc_truths_in.nd rfl (.inr rfl)) pgs_nil)))))
 (pss_one (ps_ret (pe_calS (cl := cloFrom _ _ []) (fr := ["held"]) (js := [4]) C_tell (fun ok => Caps.made (scope := lamTI) ok free_TI fr_TI rfl) (by decide) hr (by rfl) (pa_cons (pe_propC R_parts L.cl (by decide) hr (pv 0) rfl) (pa_cons (pe_propC R_gates L.cl (by decide) hr (pv 0) rfl) (pa_cons (pv 2) (pa_cons (pe_callTy (call_dictPT rfl) (by rfl) T.n_dict (by decide +kernel) (pa_cons (pv 3) pa_nil)) (pa_cons (pe_lam TB rfl hm (by rw [hn]; exact qn_truths_in) hun (scope := lamTI) free_TI rfl) pa_nil))))))))), ?_⟩
    refine ⟨.ref sa, rfl, sa, _, rfl, t1, rfl, .ref sb, _, rfl, .ref sc, _, rfl, .ref sd, [], rfl, rfl, ?_⟩
    refine ⟨.ref a, rfl, a, dx, _, rfl, h0, a, dx, _, _, rfl, h0, plF_p, .ref a, rfl, a, dx, _, rfl, h0, a, dx, _, _, rfl, h0, plF_g, .ref sb, rfl, .ref sc, rfl, sc, ts, dS V.str us, rfl, t3, pairs_to t4, fun u nu => ?_⟩
    have s1 : Same H (upd H u (.dK (mergeK [] (dS V.str us)))) := Same.new nu
    refine ⟨hT.ext s1, fun fl' c' H2 sm2 T2 f0 f1 c1 => ?_⟩
    have sm : Sm T0 H H2 := (Same.sm s1).trans sm2
    have hu2 : H2 u = some (.dK (dS V.str us)) := by
      have e := sm2.lst (upd_same (H := H) (a := u) (o := .dK (mergeK [] (dS V.str us)))) (by intro _ z; cases z)
      rw [merge_uses hnd] at e
      exact e
    intro outer' s' cells
    refine ⟨pa, xs, ps, ga, ys, gs, sb, fl, u, us, fl', fun H' => (H' fl' = some (LmO fl' (mkLam _ _ _ c') _) ∧ H' c' = some (CodeO c' _)) ∧ SqT K H' sd (sV hd), bfHeld hd, rfl, .inr (sm.sqt h1), e1.imp fun _ _ r => PartAt.kt sm.kt r, .inr (sm.sqt h2), e2.imp fun _ _ r => GateAt.kt sm.kt r, .inr (sm.sqt t2), hu2, ⟨⟨f1, c1⟩, sm.sqt t5⟩, ?_, ok, fun H3 p s3 np hp => ?_⟩
    · refine lamAt_of (ps := ["gate", "told"]) (fr := ["held"]) (ws := [some (.ref sd)]) (sp := spLamH K) (lok_of (N := ["gate", "told", "held"]) (k := 1) (show NScope ["gate", "told", "held"] ["gate", "told"] ["held"] lamTI from nscope_by (by decide +kernel)) (fun pm ctv us hl => match us, hl with | [_, _], _ => rfl) (fun A outer s H vs ws Q E hr hw hl hsp => ?_)) cells (fun H' j => j.1) (fun H' H'' sm j => ⟨⟨sm _ _ j.1.1, sm _ _ j.1.2⟩, Same.sqt sm j.2⟩) (fun vs H' Q' j hsp => ?_)
      · obtain ⟨v, b, d, hd, n, x, y, rfl, rfl, hg, hd', q'⟩ := hsp
        refine ⟨_, pe_cmpR (op_inK (K := K) rfl) (pe_ix (ix_sqK (K := K) rfl) (pv 0) pe_int (fun _ _ => rfl)) (pv 2) (by with_unfolding_all rfl), ?_⟩
        obtain ⟨t, rfl, ht⟩ := hg
        refine ⟨.ref t, rfl, t, _, 0, .str n, rfl, rfl, .inr ht, at0, .ref d, rfl, d, _, rfl, .inr hd', rfl, flat_sV _, ?_⟩
        show Q (V.bl (inV (.str n) (sV hd))) H
        rw [inV_sV]
        exact q' H (Same.refl _)
      · obtain ⟨v, b, n, x, y, tr, e, hg, _, _, _, _, q'⟩ := hsp
        exact ⟨v, b, sd, hd, n, x, y, rfl, e, hg, j.2, q'⟩
    · exact q _ p (sm.trans (Same.sm s3)) (sm.nn p np) hp
def srtP (l : List (Str × Str)) : List (Str × Str) := l.mergeSort (PySem.W.dataLe false partD)
def failable (fl : List Str) (us : Uses) (p : Str × Str) : Bool := !decide (p.1 ∈ fl) && (decide (p.2 = "hot") || decide (p.1 ∈ us.map (·.2)))
def eventsOf (ps : List (Str × Str)) (fl : List Str) (us : Uses) : List (Str × Str) := fl.map (fun x => (("mend" : Str), x)) ++ (ps.filter (failable fl us)).map (fun p => (("fail" : Str), p.1))
def eventsIn (ps : List (Str × Str)) (fl : List Str) (us : Uses) : List (Str × Str) := srtP (eventsOf ps fl us)
theorem alike_partD (p q : Str × Str) : PySem.W.alike (partD p) (partD q) = true := by simp [partD, PySem.W.alike, PySem.W.alikeAll]
theorem depth_partD (p : Str × Str) : (partD p).depth ≤ 60 := by simp [partD, PyData.depth, PyData.depthAll]
def spEventsIn (K : PySem.W.Frag) (C : Addr) : Sp := fun vs H Q _ => ∃ a v ps gs cs tp fl us hd, vs = [.ref a, v] ∧ PlObj K C H a ps gs cs tp ∧ StAt K H v fl us hd ∧ ps.length ≤ 400 ∧ fl.length ≤ 400 ∧ us.length ≤ 400 ∧
  ∀ H' p xs, Same H H' → H p = none → H' p = some (.lst xs) → Paired (PartAt K H') xs (eventsIn ps fl us) → Q (.ref p) H'
theorem ok_events_in {f C : Addr} {fd : FuncData} (F : L2.Fun K "events_in" "events_in" s_events_in f fd) (T : Nm mg) (L : PlC K mg C) (R_parts : PropC P w K mg base C "parts" "_parts") : FnOk P w K mg base CX0 3 f fd ["plant", "state"] (spEventsIn K C) := by
  refine F.ok sc_events_in (fun vs H Q E h => ?_) (fun cdv A outer s H vs Q E hr h => ?_)
  · obtain ⟨a, v, ps, gs, cs, tp, fl, us, hd, rfl, _⟩ := h
    rfl
  · obtain ⟨a, v, ps, gs, cs, tp, fl, us, hd, rfl, ho, hst, hpl, hfl, hul, q⟩ := h
    obtain ⟨dx, pa, ga, ca, xs, ys, zs, h0, h1, e1, h2, e2, h3, e3⟩ := ho.ex
    obtain ⟨sa, sb, sc, sd, ts, rfl, t1, t2, t3, t4, t5⟩ := hst.ex
    have hu64 := hr.units
    refine ⟨_, (pss_cons (ps_asg (pv 1) (pg_tupK (K := K) (n := 3) rfl rfl (pgs_cons (pg_name (i := 2) sc_events_in.nd rfl (.inl rfl)) (pgs_cons (pg_name (i := 3) sc_events_in.nd rfl (.inl rfl)) (pgs_cons (pg_name (i := 4) sc_events_in.nd rfl (.inl rfl)) pgs_nil)))))
 (pss_cons (ps_setLc (i := 5) (own := [("_", 4), ("part", 9)]) (by rfl) sc_events_in.nd rfl rfl (sw_true rfl rfl rfl (by decide +kernel)) (pi_sq (pv 3)) (blkOk_by (own := [("_", 4), ("part", 9)]) (N := ["plant", "state", "failed", "uses", "_", "used", "events", "name", "kind", "part"]) (sc := defScope s_events_in) (by decide +kernel)) (fun _ _ _ _ _ => (pg_tupK (K := K) (n := 2) rfl rfl (pgs_cons (pg_name (i := 4) sc_events_in.nd rfl (.inl rfl)) (pgs_cons (pg_name (i := 9) sc_events_in.nd rfl (.inl rfl)) pgs_nil)))) (fun _ _ _ _ _ => pts_nil) (fun _ _ _ _ _ => (pv 9)))
 (pss_cons (ps_setLc (i := 6) (own := [("name", 7)]) (g := gName 7) (by rfl) sc_events_in.nd rfl rfl (sw_true rfl rfl rfl (by decide +kernel)) (pi_sq (pv 2)) (blkOk_by (own := [("name", 7)]) (N := ["plant", "state", "failed", "uses", "_", "used", "events", "name", "kind", "part"]) (sc := defScope s_events_in) (by decide +kernel)) (fun _ _ _ _ _ => pg_name (i := 7) sc_events_in.nd rfl (.inl rfl)) (fun _ _ _ _ _ => pts_nil) (fun _ _ _ _ _ => (pe_tup (pa_cons pe_str (pa_cons (pv 7) pa_nil)))))
 (pss_cons (ps_for PassesOwn.never rfl (pi_sq (pe_propC R_parts L.cl (by decide) hr (pv 0) rfl)) (pg_tupK (K := K) (n := 2) rfl rfl (pgs_cons (pg_name (i := 7) sc_events_in.nd rfl (.inl rfl)) (pgs_cons (pg_name (i := 8) sc_events_in.nd rfl (.inl rfl)) pgs_nil)))
 (pss_one (ps_if (PW.pt (pw_and (pt_cmpR (op_notInK (K := K) rfl) (pv 7) (pv 2) (by with_unfolding_all rfl)) (pw_and1 (PW.pt (pw_or (pt_cmpR op_eq (pv 8) pe_str (nomark _)) (pw_or1 (pt_cmpR (op_inK (K := K) rfl) (pv 7) (pv 5) (by with_unfolding_all rfl))))))))
 (pss_one (ps_expr (pe_bm PySem.F.plainAttrs_list PySem.F.slot_list_append PySem.F.type_list_append mt_append (pv 6) (pa_cons (pe_tup (pa_cons pe_str (pa_cons (pv 7) pa_nil))) pa_nil))))
 pss_nil)))
 (pss_one (ps_ret (pe_callB (cr_sortV hu64) (by rfl) T.n_sorted (by decide +kernel) (pa_cons (pv 6) pa_nil)))))))), ?_⟩
    refine ⟨.ref sa, rfl, sa, _, rfl, t1, rfl, .ref sb, _, rfl, .ref sc, _, rfl, .ref sd, [], rfl, rfl, ?_⟩
    refine ⟨.ref sc, rfl, sc, false, rfl, ⟨_, t3.sqt⟩, fun D nD => ?_⟩
    refine lc_it (walk_sq (xs := ts.map V.ref)) (LP H D fun i => sV ((us.take i).map (·.2))) (LP.zero nD rfl) (fun _ _ _ p => Same.sqb (b := false) p.sm t3.sqt) (fun i x H2 H3 hi p y => ?_) (fun H2 p => ?_)
    · obtain ⟨rfl, hx⟩ := y
      obtain ⟨t, u, hu, rfl, ht⟩ := paired_at t4 hx
      refine ⟨t, _, rfl, Same.sqt p.sm ht, rfl, .str u.1, _, rfl, .str u.2, [], rfl, rfl, rfl, ?_⟩
      refine ⟨.str u.2, rfl, p.put nD (Same.refl _) ?_ ?_⟩
      · show sV _ = sV _ ++ [_]
        rw [List.take_add_one, hu]
        simp [sV]
      · rw [sizeLine_eq]
        simp [sV]
        omega
    have hD : H2 D = some (.lst (sV (us.map (·.2)))) := by
      rw [p.at_, List.length_map, Paired.length t4, List.take_length]
    have s2 := p.sm
    refine ⟨.ref sb, rfl, sb, false, rfl, ⟨_, Same.sqt s2 t2⟩, fun M nM => ?_⟩
    refine lc_it (walk_sq (xs := sV fl)) (fun i H => LQ K H2 M ((fl.take i).map fun x => (("mend" : Str), x)) H) (LQ.zero nM) (fun _ _ _ p => Same.sqb (b := false) (s2.trans p.sm) t2) (fun i x H3 H4 hi p y => ?_) (fun H3 p => ?_)
    · obtain ⟨rfl, hx⟩ := y
      obtain ⟨hi2, rfl⟩ := sV_get hx
      refine ⟨rfl, .str fl[i], rfl, by show 2 ≤ sizeLine; decide, fun t nt => ?_⟩
      rw [take_sV hi2, List.map_append]
      exact p.put nM (Same.new nt) ⟨t, rfl, .of upd_same⟩ (by simp; omega)
    have elen : (sV fl).length = fl.length := List.length_map ..
    rw [elen, List.take_length] at p
    have s3 := s2.trans p.sm
    obtain ⟨dp, hdp⟩ := (Sq.b (K := K) (.inr h1) : ∃ b, Sqb b K H pa xs)
    refine ⟨.ref a, rfl, a, dx, _, rfl, s3 _ _ h0, a, dx, _, _, rfl, s3 _ _ h0, plF_p, pa, dp, rfl, ⟨_, Same.sqb s3 hdp⟩, for_it (walk_sq (xs := xs)) (fun i σ H4 => ∃ y7 y8 y9, σ = [some (.ref a), some (.ref sa), some (.ref sb), some (.ref sc), some (.ref sd), some (.ref D), some (.ref M), y7, y8, y9] ∧ LQ K H2 M (fl.map (fun x => (("mend" : Str), x)) ++ ((ps.take i).filter (failable fl us)).map (fun p => (("fail" : Str), p.1))) H4) ⟨_, _, _, rfl, by simpa using p⟩ (fun i σ H4 hi p => ?_) (fun i x σ H4 H5 hi p y => ?_) (fun σ H4 p => ?_)⟩
    · obtain ⟨_, _, _, _, p⟩ := p
      exact Same.sqb (s2.trans p.sm) hdp
    · obtain ⟨y7, y8, y9, rfl, p⟩ := p
      obtain ⟨rfl, hx⟩ := y
      obtain ⟨pt, hpt, t, rfl, r⟩ := e1.2 i x hx
      have s4 := s2.trans p.sm
      have hi2 : i < ps.length := (List.getElem?_eq_some_iff.mp hpt).1
      have eps : ps[i] = pt := Option.some.inj ((List.getElem?_eq_getElem hi2).symm.trans hpt)
      have suc : (ps.take (i + 1)).filter (failable fl us) = (ps.take i).filter (failable fl us) ++ (if failable fl us pt = true then [pt] else []) := by
        rw [List.take_add_one, hpt, Option.toList_some, List.filter_append, filter_one]
      refine ⟨t, _, rfl, Same.sqt s4 r, rfl, .str pt.1, _, rfl, .str pt.2, [], rfl, rfl, ?_⟩
      have hlen : (fl.map (fun x => (("mend" : Str), x)) ++ ((ps.take i).filter (failable fl us)).map (fun p => (("fail" : Str), p.1))).length ≤ 1000 := by
        have h1 : ((ps.take i).filter (failable fl us)).length ≤ (ps.take i).length := List.length_filter_le ..
        simp at h1 ⊢
        omega
      refine tAnd_pure (!decide (pt.1 ∈ fl)) (decide (pt.2 = "hot") || decide (pt.1 ∈ us.map (·.2))) (fun Q' q' => ?_) (fun _ Q' q' => ?_) ?_
      · refine ⟨.str pt.1, rfl, .ref sb, rfl, sb, _, rfl, .inr (Same.sqt s4 t2), rfl, flat_sV _, !decide (pt.1 ∈ fl), ?_, q'⟩
        show V.bl (!inV (.str pt.1) (sV fl)) = _
        rw [inV_sV]
      · refine tOr_pure (decide (pt.2 = "hot")) (decide (pt.1 ∈ us.map (·.2))) (fun Q' q' => ?_) (fun _ Q' q' => ?_) q'
        · refine ⟨.str pt.2, rfl, rfl, _, rfl, ?_⟩
          show Q' (decide (V.str pt.2 = V.str "hot")) H5
          rw [decStr]
          exact q'
        · refine ⟨.str pt.1, rfl, .ref D, rfl, D, _, rfl, .inl (.of (p.sm _ _ hD)), rfl, flat_sV _, decide (pt.1 ∈ us.map (·.2)), ?_, q'⟩
          show V.bl (inV (.str pt.1) (sV _)) = _
          rw [inV_sV]
      · have ec : (!decide (pt.1 ∈ fl) && (decide (pt.2 = "hot") || decide (pt.1 ∈ us.map (·.2)))) = failable fl us pt := rfl
        rw [ec]
        refine ite2 (fun e => ?_) (fun e => ?_)
        · obtain ⟨acc, hacc, pacc⟩ := p.ex
          refine ⟨.ref M, rfl, .inl ⟨rfl, _, .of hacc⟩, .str pt.1, rfl, by show 2 ≤ sizeLine; decide, fun t' nt => ?_⟩
          obtain ⟨acc', z1, z2, z3⟩ := p.put (t := t') (p := (("fail" : Str), pt.1)) nM (Same.new (o := .tup [.str "fail", .str pt.1]) nt) ⟨t', rfl, .of upd_same⟩ hlen
          refine ⟨M, acc', .ref t', rfl, rfl, z1, z2, ?_⟩
          refine ⟨_, _, _, rfl, ?_⟩
          rw [suc, if_pos e, List.map_append, ← List.append_assoc]
          exact z3
        · refine ⟨_, _, _, rfl, ?_⟩
          rw [suc, if_neg e, List.append_nil]
          exact p
    · obtain ⟨y7, y8, y9, rfl, p⟩ := p
      rw [e1.1, List.take_length] at p
      obtain ⟨acc, hacc, pacc⟩ := p.ex
      have s4 := s2.trans p.sm
      have el : (eventsOf ps fl us).length = (eventsOf ps fl us).length := rfl
      refine ⟨.ref M, rfl, M, acc, Str × Str, eventsOf ps fl us, partD, PartAt K H4, rfl, .of hacc, Paired.imp2 (fun _ _ r => ⟨r.dp, r⟩) pacc, PySem.W.AllAlike.of alike_partD, .inl fun d hd => ?_, fun b _ => depth_partD b, fun ys p' hy np => ?_⟩
      · obtain ⟨b, _, rfl⟩ := List.mem_map.mp hd
        exact ⟨_, _, rfl⟩
      · have s5 : Same H4 (upd H4 p' (.lst ys)) := Same.new np
        exact q _ p' ys (s4.trans s5) (s4.free np) upd_same (Paired.imp2 (fun _ _ r => PartAt.kt (Same.kt s5) r) hy)
end
end Kf

set_option Elab.async false
set_option linter.all false
set_option maxRecDepth 100000
set_option maxHeartbeats 2000000
namespace Kf
open PySem PySem.Spec PyProof.Rows L2 LamX NdefX TL
/-! ## runs.py: the truths within an event -/
def came (n x y : Str) (now earlier : Tr) : Bool := lookT now x && lookT now y && lookT earlier x && (!lookT earlier y || lookT earlier n)
def bfNow (earlier : Tr) : G → Tr → Bool := fun g tr => match g with
  | .before n x y => came n x y tr earlier
  | _ => false
def truthsNow (ps : List (Str × Str)) (gs : List G) (fl : List Str) (us : Uses) (earlier : Tr) : Tr := tellM (bfNow earlier) fl us ps gs
theorem tAndV_pure {ta tb : TE} {σ : L2.St} {H : Hp} {Q : VK} (c1 c2 : Bool) (h1 : ∀ Q' : VK, Q' (.bl c1) H → ta σ H Q') (h2 : c1 = true → ∀ Q' : VK, Q' (.bl c2) H → tb σ H Q') (q : Q (.bl (c1 && c2)) H) : tAndV ta tb σ H Q := by
  refine h1 _ ⟨c1, rfl, ?_⟩
  cases c1 with
  | true => exact iteT (h2 rfl _ q)
  | false => exact iteF q
theorem tOrV_pure {ta tb : TE} {σ : L2.St} {H : Hp} {Q : VK} (c1 c2 : Bool) (h1 : ∀ Q' : VK, Q' (.bl c1) H → ta σ H Q') (h2 : c1 = false → ∀ Q' : VK, Q' (.bl c2) H → tb σ H Q') (q : Q (.bl (c1 || c2)) H) : tOrV ta tb σ H Q := by
  refine h1 _ ⟨c1, rfl, ?_⟩
  cases c1 with
  | true => exact iteT q
  | false => exact iteF (h2 rfl _ q)
theorem tNotV_pure {ta : TE} {σ : L2.St} {H : Hp} {Q : VK} (c : Bool) (h : ∀ Q' : VK, Q' (.bl c) H → ta σ H Q') (q : Q (.bl (!c)) H) : tNotV ta σ H Q := h _ ⟨c, rfl, q⟩
section
variable {P : Program} {w : World} {K : PySem.W.Frag} {mg : Str → Option Value} {base : Heap}
def spCame (K : PySem.W.Frag) : Sp := fun vs H Q _ => ∃ v b c n x y now ea, vs = [v, .ref b, .ref c] ∧ GateAt K H v (.before n x y) ∧ H b = some (.dK (dS V.bl now)) ∧ H c = some (.dK (dS V.bl ea)) ∧ KeyIn now x ∧ KeyIn now y ∧ KeyIn ea x ∧ KeyIn ea y ∧ KeyIn ea n ∧ ∀ H', Same H H' → Q (.bl (came n x y now ea)) H'
theorem ok_came_first {f : Addr} {fd : FuncData} {k : Nat} (F : Fun K "came_first" "came_first" s_came_first f fd) (T : Nm mg) : FnOk P w K mg base CX0 (k + 1) f fd ["gate", "now", "earlier"] (spCame K) := by
  refine F.ok sc_came_first (fun vs H Q E h => ?_) (fun cdv A outer s H vs Q E hr h => ?_)
  · obtain ⟨v, b, c, n, x, y, now, ea, rfl, _⟩ := h
    rfl
  · obtain ⟨v, b, c, n, x, y, now, ea, rfl, hg, hb, hc, k1, k2, k3, k4, k5, q⟩ := h
    have hu := hu_of hr
    obtain ⟨t, rfl, ht⟩ := hg
    refine ⟨_, (pss_cons (ps_asg (pv 0) (pg_tupK (K := K) (n := 4) rfl rfl (pgs_cons (pg_name (i := 3) sc_came_first.nd rfl (.inl rfl)) (pgs_cons (pg_name (i := 4) sc_came_first.nd rfl (.inl rfl)) (pgs_cons (pg_name (i := 5) sc_came_first.nd rfl (.inl rfl)) (pgs_cons (pg_name (i := 6) sc_came_first.nd rfl (.inl rfl)) pgs_nil))))))
 (pss_one (ps_ret (pe_and (pe_dget hu (pv 1) (pv 5) (fun _ _ => rfl)) (pe_and (pe_dget hu (pv 1) (pv 6) (fun _ _ => rfl)) (pe_and (pe_dget hu (pv 2) (pv 5) (fun _ _ => rfl)) (pe_one (pe_or (pe_not (pe_dget hu (pv 2) (pv 6) (fun _ _ => rfl))) (pe_one (pe_dget hu (pv 2) (pv 3) (fun _ _ => rfl))))))))))), ?_⟩
    refine ⟨.ref t, rfl, t, _, rfl, ht, rfl, .str n, _, rfl, .str "before", _, rfl, .str x, _, rfl, .str y, [], rfl, rfl, ?_⟩
    show tAndV (tDGet (tVar 1) (tVar 5)) (tAndV (tDGet (tVar 1) (tVar 6)) (tAndV (tDGet (tVar 2) (tVar 5)) (tOrV (tNotV (tDGet (tVar 2) (tVar 6))) (tDGet (tVar 2) (tVar 3))))) [some (.ref t), some (.ref b), some (.ref c), some (.str n), some (.str "before"), some (.str x), some (.str y)] H Q
    refine tAndV_pure (lookT now x) (lookT now y && (lookT ea x && (!lookT ea y || lookT ea n))) (fun Q' q' => ⟨.ref b, rfl, .str x, rfl, b, _, rfl, k1.look hb, q'⟩) (fun _ Q1 q1 => ?_) ?_
    · refine tAndV_pure (lookT now y) (lookT ea x && (!lookT ea y || lookT ea n)) (fun Q' q' => ⟨.ref b, rfl, .str y, rfl, b, _, rfl, k2.look hb, q'⟩) (fun _ Q2 q2 => ?_) q1
      refine tAndV_pure (lookT ea x) (!lookT ea y || lookT ea n) (fun Q' q' => ⟨.ref c, rfl, .str x, rfl, c, _, rfl, k3.look hc, q'⟩) (fun _ Q3 q3 => ?_) q2
      exact tOrV_pure (!lookT ea y) (lookT ea n) (fun Q' q' => tNotV_pure (lookT ea y) (fun Q4 q4 => ⟨.ref c, rfl, .str y, rfl, c, _, rfl, k4.look hc, q4⟩) q') (fun _ Q' q' => ⟨.ref c, rfl, .str n, rfl, c, _, rfl, k5.look hc, q'⟩) q3
    · have e : (lookT now x && (lookT now y && (lookT ea x && (!lookT ea y || lookT ea n)))) = came n x y now ea := by
        unfold came
        simp only [Bool.and_assoc]
      show Q (.bl _) H
      rw [e]
      exact q H (Same.refl _)
/-- all names have their truths -/
def KeyAll (ps : List (Str × Str)) (gs : List G) (tr : Tr) : Prop := ∀ x, x ∈ ps.map (·.1) ++ gs.map G.name → KeyIn tr x
theorem keyAll_tell {bf : G → Tr → Bool} {fl : List Str} {us : Uses} {ps : List (Str × Str)} {gs : List G} : KeyAll ps gs (tellM bf fl us ps gs) := fun x hx => keyIn_tell (by
  rcases List.mem_append.mp hx with h | h
  · exact .inl (keyIn_parts h)
  · exact .inr h)
theorem take_sub {α : Type} {l : List α} {i : Nat} {x : α} (h : x ∈ l.take i) : x ∈ l := List.mem_of_mem_take h
theorem TellOk.reads {ps : List (Str × Str)} {us : Uses} {gs : List G} (ok : TellOk ps us gs) {n x y : Str} (h : G.before n x y ∈ gs) : x ∈ ps.map (·.1) ++ gs.map G.name ∧ y ∈ ps.map (·.1) ++ gs.map G.name ∧ n ∈ ps.map (·.1) ++ gs.map G.name := by
  obtain ⟨i, hi⟩ := List.mem_iff_getElem?.mp h
  obtain ⟨h1, h2⟩ := ok.each i _ hi
  have up : ∀ z, z ∈ ps.map (·.1) ++ (gs.take i).map G.name → z ∈ ps.map (·.1) ++ gs.map G.name := fun z hz => by
    rcases List.mem_append.mp hz with h | h
    · exact List.mem_append.mpr (.inl h)
    · obtain ⟨g, hg, rfl⟩ := List.mem_map.mp h
      exact List.mem_append.mpr (.inr (List.mem_map.mpr ⟨g, take_sub hg, rfl⟩))
  exact ⟨up x h1, up y h2, List.mem_append.mpr (.inr (List.mem_map.mpr ⟨_, h, rfl⟩))⟩
def spLamN (K : PySem.W.Frag) : List (Option V) → List V → Hp → VK → Prop := fun ws vs H Q => ∃ v b c ea n x y now, ws = [some (.ref c)] ∧ vs = [v, .ref b] ∧ GateAt K H v (.before n x y) ∧ H b = some (.dK (dS V.bl now)) ∧ H c = some (.dK (dS V.bl ea)) ∧ KeyIn now x ∧ KeyIn now y ∧ KeyIn ea x ∧ KeyIn ea y ∧ KeyIn ea n ∧ ∀ H', Same H H' → Q (.bl (came n x y now ea)) H'
def lamTN : Scope := { kind := .function, names := [("gate", .local), ("now", .local), ("earlier", .free), ("came_first", .globalImplicit)], isGenerator := false, isCoroutine := false }
theorem free_TN : ∀ y ∈ lamTN.names, y.2 = .free → (defScope s_truths_now).names.lookup y.1 = some .cell ∨ (defScope s_truths_now).names.lookup y.1 = some .free := by decide +kernel
theorem fr_TN : ∀ y ∈ [("earlier" : Str)], (y, NameKind.free) ∈ lamTN.names := by decide +kernel
theorem qn_truths_now : ("truths_now.<locals>.<lambda>" : Str) = (("truths_now" : Str) ++ ".<locals>.") ++ "<lambda>" := by decide +kernel
def spTruthsNow (K : PySem.W.Frag) (C : Addr) (T0 : List NTab) : Sp := fun vs H Q _ => ∃ a b c d ps gs cs tp fl us ea, vs = [.ref a, .ref b, .ref c, .ref d] ∧ PlObj K C H a ps gs cs tp ∧ Sq K H b (sV fl) ∧ H c = some (.dK (dS V.str us)) ∧ H d = some (.dK (dS V.bl ea)) ∧ KeyAll ps gs ea ∧ TellOk ps us gs ∧ TabsN T0 H ∧
  ∀ H' p, Sm T0 H H' → H p = none → H' p = some (.dK (dS V.bl (truthsNow ps gs fl us ea))) → Q (.ref p) H'
theorem ok_truths_now {f c C Pt : Addr} {fd : FuncData} {T0 : List NTab} {nm : Nat → Nat → Str} (F : FunC K "truths_now" "truths_now" s_truths_now f fd c) (T : Nm mg) (L : PlC K mg C) (TB : TabB base mg c Pt) (hm : (Pt, nm) ∈ T0) (hn : ∀ i j, nm i j = "truths_now.<locals>.<lambda>") (hun : ∀ p ∈ T0, p.1 = Pt → p.2 = nm)
    (R_parts : PropC P w K mg base C "parts" "_parts") (R_gates : PropC P w K mg base C "gates" "_gates") (C_tell : CalS P w K mg base 4 "tell" ["parts", "gates", "failed", "uses", "before"] (spTell P w K mg base)) (C_came_first : Cal P w K mg base 1 "came_first" ["gate", "now", "earlier"] (spCame K)) :
    FnOk P w K mg base CX0 5 f fd ["plant", "failed", "uses", "earlier"] (spTruthsNow K C T0) := by
  refine okC F sc_truths_now (fun vs H Q E h => ?_) (fun A outer s H vs Q E hr h => ?_)
  · obtain ⟨a, b, c, d, ps, gs, cs, tp, fl, us, ea, rfl, _⟩ := h
    rfl
  · obtain ⟨a, b, c, d, ps, gs, cs, tp, fl, us, ea, rfl, ho, hb, hc, hd, hka, ok, hT, q⟩ := h
    obtain ⟨dx, pa, ga, ca, xs, ys, zs, h0, h1, e1, h2, e2, h3, e3⟩ := ho.ex
    refine ⟨_, pss_one (ps_ret (pe_calS (cl := cloFrom _ _ []) (fr := ["earlier"]) (js := [3]) C_tell (fun ok => Caps.made (scope := lamTN) ok free_TN fr_TN rfl) (by decide) hr (by rfl) (pa_cons (pe_propC R_parts L.cl (by decide) hr (pv 0) rfl) (pa_cons (pe_propC R_gates L.cl (by decide) hr (pv 0) rfl) (pa_cons (pv 1) (pa_cons (pv 2) (pa_cons (pe_lam TB rfl hm (by rw [hn]; exact qn_truths_now) hun (scope := lamTN) free_TN rfl) pa_nil))))))), ?_⟩
    refine ⟨.ref a, rfl, a, dx, _, rfl, h0, a, dx, _, _, rfl, h0, plF_p, .ref a, rfl, a, dx, _, rfl, h0, a, dx, _, _, rfl, h0, plF_g, .ref b, rfl, .ref c, rfl, hT, fun fl' c' H2 sm2 T2 f0 f1 c1 => ?_⟩
    intro outer' s' cells
    refine ⟨pa, xs, ps, ga, ys, gs, b, fl, c, us, fl', fun H' => (H' fl' = some (LmO fl' (mkLam _ _ _ c') _) ∧ H' c' = some (CodeO c' _)) ∧ H' d = some (.dK (dS V.bl ea)), bfNow ea, rfl, .inr (sm2.sqt h1), e1.imp fun _ _ r => PartAt.kt sm2.kt r, .inr (sm2.sqt h2), e2.imp fun _ _ r => GateAt.kt sm2.kt r, sm2.sq hb, sm2.lst hc (by intro _ z; cases z), ⟨⟨f1, c1⟩, sm2.lst hd (by intro _ z; cases z)⟩, ?_, ok, fun H3 p s3 np hp => ?_⟩
    · refine lamAt_of (ps := ["gate", "now"]) (fr := ["earlier"]) (ws := [some (.ref d)]) (sp := spLamN K) (lok_of (N := ["gate", "now", "earlier"]) (k := 1) (show NScope ["gate", "now", "earlier"] ["gate", "now"] ["earlier"] lamTN from nscope_by (by decide +kernel)) (fun pm ctv us hl => match us, hl with | [_, _], _ => rfl) (fun A outer s H vs ws Q E hr hw hl hsp => ?_)) cells (fun H' j => j.1) (fun H' H'' sm j => ⟨⟨sm _ _ j.1.1, sm _ _ j.1.2⟩, sm _ _ j.2⟩) (fun vs H' Q' j hsp => ?_)
      · obtain ⟨v, b, c, ea, n, x, y, now, rfl, rfl, z⟩ := hsp
        exact ⟨_, pe_cal C_came_first (by decide) hr (by rfl) (pa_cons (pv 0) (pa_cons (pv 1) (pa_cons (pv 2) pa_nil))), ⟨_, rfl, .ref b, rfl, .ref c, rfl, v, b, c, n, x, y, now, ea, rfl, z⟩⟩
      · obtain ⟨v, b, n, x, y, tr, e, hg, hmem, hb', k1, k2, q'⟩ := hsp
        obtain ⟨m1, m2, m3⟩ := ok.reads hmem
        exact ⟨v, b, d, ea, n, x, y, tr, rfl, e, hg, hb', j.2, k1, k2, hka _ m1, hka _ m2, hka _ m3, q'⟩
    · exact q _ p (sm2.trans (Same.sm s3)) (sm2.nn p np) hp
end
end Kf

set_option Elab.async false
set_option linter.all false
set_option maxRecDepth 100000
set_option maxHeartbeats 2000000
namespace Kf
open PySem PySem.Spec PyProof.Rows L2 LamX NdefX TL
/-! ## runs.py: the state that comes about, and the line of failures -/
def srtS (l : List Str) : List Str := l.mergeSort (PySem.W.dataLe false PyData.str)
def G.isBefore : G → Bool
  | .before _ _ _ => true
  | _ => false
def isHeld (tr : Tr) (g : G) : Bool := g.isBefore && lookT tr g.name
def heldOf (gs : List G) (tr : Tr) : List Str := (gs.filter (isHeld tr)).map G.name
theorem alike_str (x y : Str) : PySem.W.alike (.str x) (.str y) = true := by simp [PySem.W.alike]
theorem word_before {g : G} : g.isBefore = decide (g.word = "before") := by
  cases g with
  | before n x y => exact (decide_eq_true rfl).symm
  | all _ _ => exact (decide_eq_false ne_all_before).symm
  | any _ _ => exact (decide_eq_false ne_any_before).symm
  | least _ _ _ => exact (decide_eq_false ne_least_before).symm
  | spare _ _ => exact (decide_eq_false ne_spare_before).symm
theorem paired_sV {H : Hp} {K : PySem.W.Frag} : ∀ l : List Str, Paired (fun x b => Dp K H x (PyData.str b) ∧ x = V.str b) (sV l) l
  | [] => .nil
  | x :: r => .cons ⟨.str x, rfl⟩ (paired_sV r)
theorem sV_of : ∀ {ys : List V} {l : List Str}, Paired (fun x b => x = V.str b) ys l → ys = sV l
  | _, _, .nil => rfl
  | _, _, .cons h t => by rw [h, sV_of t]; rfl
theorem sortable_str (fl : List Str) : PySem.W.Sortable (fl.map PyData.str) := PySem.W.Sortable.others (fun b => ⟨(by intro z; cases z), (by intro xs z; cases z)⟩)
section
variable {P : Program} {w : World} {K : PySem.W.Frag} {mg : Str → Option Value} {base : Heap}
def spStateOf (K : PySem.W.Frag) (C : Addr) : Sp := fun vs H Q _ => ∃ a b c d ps gs cs tp fl us tr, vs = [.ref a, .ref b, .ref c, .ref d] ∧ PlObj K C H a ps gs cs tp ∧ SqL K H b (sV fl) ∧ H c = some (.dK (dS V.str us)) ∧ H d = some (.dK (dS V.bl tr)) ∧ KeyAll ps gs tr ∧ gs.length ≤ 400 ∧
  ∀ H' v, Same H H' → StAt K H' v (srtS fl) us (heldOf gs tr) → Q v H'
theorem ok_state_of {f C : Addr} {fd : FuncData} (F : L2.Fun K "state_of" "state_of" s_state_of f fd) (T : Nm mg) (L : PlC K mg C) (R_gates : PropC P w K mg base C "gates" "_gates") :
    FnOk P w K mg base CX0 3 f fd ["plant", "failed", "uses", "truths"] (spStateOf K C) := by
  refine F.ok sc_state_of (fun vs H Q E h => ?_) (fun cdv A outer s H vs Q E hr h => ?_)
  · obtain ⟨a, b, c, d, ps, gs, cs, tp, fl, us, tr, rfl, _⟩ := h
    rfl
  · obtain ⟨a, b, c, d, ps, gs, cs, tp, fl, us, tr, rfl, ho, hb, hc, hd, hka, hgl, q⟩ := h
    obtain ⟨dx, pa, ga, ca, xs, ys, zs, h0, h1, e1, h2, e2, h3, e3⟩ := ho.ex
    have hu := hu_of hr
    have hu64 := hr.units
    refine ⟨_, (pss_cons (ps_setLc (i := 4) (own := [("gate", 5)]) (g := gName 5) (by rfl) sc_state_of.nd rfl rfl (sw_true rfl rfl rfl (by decide +kernel)) (pi_sq (pe_propC R_gates L.cl (by decide) hr (pv 0) rfl)) (blkOk_by (own := [("gate", 5)]) (N := ["plant", "failed", "uses", "truths", "held", "gate"]) (sc := defScope s_state_of) (by decide +kernel)) (fun _ _ _ _ _ => pg_name (i := 5) sc_state_of.nd rfl (.inl rfl)) (fun _ _ _ _ _ => pts_one (PW.pt (pw_and (pt_cmpR op_eq (pe_ix (ix_sqK (K := K) rfl) (pv 5) pe_int (fun _ _ => rfl)) pe_str (nomark _)) (pw_and1 (pt_val (pe_dget hu (pv 3) (pe_ix (ix_sqK (K := K) rfl) (pv 5) pe_int (fun _ _ => rfl)) (fun _ _ => rfl))))))) (fun _ _ _ _ _ => (pe_ix (ix_sqK (K := K) rfl) (pv 5) pe_int (fun _ _ => rfl))))
 (pss_one (ps_ret (pe_tup (pa_cons (pe_callTy (call_tupQ (K := K) rfl) (by rfl) T.n_tuple (by decide +kernel) (pa_cons (pe_callB (cr_sortV hu64) (by rfl) T.n_sorted (by decide +kernel) (pa_cons (pv 1) pa_nil)) pa_nil)) (pa_cons (pe_tupItems rfl (pv 2) (by rfl) T.n_tuple (by decide +kernel)) (pa_cons (pe_callTy (call_tupQ (K := K) rfl) (by rfl) T.n_tuple (by decide +kernel) (pa_cons (pv 4) pa_nil)) pa_nil))))))), ?_⟩
    obtain ⟨dg, hdg⟩ := (Sq.b (K := K) (.inr h2) : ∃ b, Sqb b K H ga ys)
    refine ⟨.ref a, rfl, a, dx, _, rfl, h0, a, dx, _, _, rfl, h0, plF_g, ga, dg, rfl, ⟨_, hdg⟩, fun D nD => ?_⟩
    refine lc_it (walk_sq (xs := ys)) (LP H D fun i => sV (((gs.take i).filter (isHeld tr)).map G.name)) (LP.zero nD rfl) (fun _ _ _ p => Same.sqb p.sm hdg) (fun i x H2 H3 hi p y => ?_) (fun H2 p => ?_)
    · obtain ⟨rfl, hx⟩ := y
      obtain ⟨g, hg, r⟩ := e2.2 i x hx
      obtain ⟨t, rest, rfl, ht, _⟩ := (GateAt.kt (Same.kt p.sm) r).cut
      have suc : (gs.take (i + 1)).filter (isHeld tr) = (gs.take i).filter (isHeld tr) ++ (if isHeld tr g = true then [g] else []) := by
        rw [List.take_add_one, hg, Option.toList_some, List.filter_append, filter_one]
      have hmem := List.mem_of_getElem? hg
      have kg : KeyIn tr g.name := hka _ (List.mem_append.mpr (.inr (List.mem_map.mpr ⟨g, hmem, rfl⟩)))
      refine ⟨rfl, tAnd_pure g.isBefore (lookT tr g.name) (fun Q' q' => ?_) (fun _ Q' q' => ?_) ?_⟩
      · refine ⟨.ref t, rfl, t, _, 1, .str g.word, rfl, rfl, .inr ht, at1, rfl, _, rfl, ?_⟩
        show Q' (decide (V.str g.word = V.str "before")) H3
        rw [decStr, ← word_before]
        exact q'
      · refine ⟨.ref d, rfl, .ref t, rfl, t, _, 0, .str g.name, rfl, rfl, .inr ht, at0, d, _, rfl, kg.look (p.sm _ _ hd), _, rfl, q'⟩
      · have ec : (g.isBefore && lookT tr g.name) = isHeld tr g := rfl
        rw [ec]
        refine ite2 (fun e => ?_) (fun e => ?_)
        · refine ⟨.ref t, rfl, t, _, 0, .str g.name, rfl, rfl, .inr ht, at0, ?_⟩
          refine p.put nD (Same.refl _) ?_ ?_
          · rw [suc, if_pos e]
            simp [sV]
          · have : ((gs.take i).filter (isHeld tr)).length ≤ (gs.take i).length := List.length_filter_le ..
            rw [sizeLine_eq]
            simp [sV] at this ⊢
            omega
        · refine p.skip (Same.refl _) ?_
          rw [suc, if_neg e, List.append_nil]
    have hD : H2 D = some (.lst (sV (heldOf gs tr))) := by
      rw [p.at_, e2.1, List.take_length]
      rfl
    have s2 := p.sm
    refine ⟨.ref b, rfl, b, sV fl, Str, fl, PyData.str, fun x y => x = .str y, rfl, s2.seq hb, paired_sV fl, PySem.W.AllAlike.of alike_str, sortable_str fl, fun b _ => Nat.zero_le _, fun ys m hy nm => ?_⟩
    obtain rfl := sV_of hy
    have s3 : Same H2 (upd H2 m (.lst (sV (srtS fl)))) := Same.new nm
    refine ⟨m, _, rfl, .inl (.of upd_same), fun t1 H3 s4 ht1 => ?_⟩
    have s34 := s3.trans s4
    refine ⟨.ref c, rfl, c, _, rfl, s34 _ _ (s2 _ _ hc), fun H4 u ts s5 nu hu hts => ?_⟩
    refine ⟨.ref D, rfl, D, _, rfl, .inl (.of (s5 _ _ (s34 _ _ hD))), fun t2 H5 s6 ht2 => ?_⟩
    refine ⟨by show 3 ≤ sizeLine; decide, fun p3 np3 => ?_⟩
    have s7 : Same H5 (upd H5 p3 (.tup [.ref t1, .ref u, .ref t2])) := Same.new np3
    have s67 := s6.trans s7
    refine q _ _ ((s2.trans s34).trans (s5.trans s67)) ⟨p3, t1, u, t2, ts, rfl, .of upd_same, Same.sqt (s5.trans s67) ht1, hu.same s67, pairs_at (us := us) (fun t kv h => .of (s67 _ _ h)) hts, Same.sqt s7 ht2⟩
/-! ### the parts that join the line -/
def joinOk (now : Tr) (wait : List Str) (n : Str) : Bool := !lookT now n && !decide (n ∈ wait)
def join1 (now before : Tr) (line acc : List Str) (c : Str × List Str) : List Str := if (lookT now c.1 && !lookT before c.1) = true then acc ++ c.2.filter (joinOk now (line ++ acc)) else acc
def joinM (cs : List (Str × List Str)) (now before : Tr) (line : List Str) : List Str := cs.foldl (join1 now before line) []
theorem join1_le {now before : Tr} {line acc : List Str} {c : Str × List Str} (h : c.2.length ≤ 100) : (join1 now before line acc c).length ≤ acc.length + 100 := by
  unfold join1
  split
  · have := List.length_filter_le (joinOk now (line ++ acc)) c.2
    rw [List.length_append]
    omega
  · omega
theorem join_le {now before : Tr} {line : List Str} : ∀ (cs : List (Str × List Str)) (acc : List Str), (∀ c ∈ cs, c.2.length ≤ 100) → (cs.foldl (join1 now before line) acc).length ≤ acc.length + cs.length * 100
  | [], acc, _ => by simp
  | c :: cs, acc, h => by
    have h1 := join1_le (now := now) (before := before) (line := line) (acc := acc) (h c (List.mem_cons_self ..))
    have h2 := join_le (now := now) (before := before) (line := line) cs (join1 now before line acc c) fun c hc => h c (List.mem_cons_of_mem _ hc)
    rw [List.foldl_cons, List.length_cons]
    omega
def spJoining (K : PySem.W.Frag) (C : Addr) : Sp := fun vs H Q _ => ∃ a b c d ps gs cs tp now be line, vs = [.ref a, .ref b, .ref c, .ref d] ∧ PlObj K C H a ps gs cs tp ∧ H b = some (.dK (dS V.bl now)) ∧ H c = some (.dK (dS V.bl be)) ∧ H d = some (.lst (sV line)) ∧ KeyAll ps gs now ∧ KeyAll ps gs be ∧ CausesOk (ps.map (·.1)) (ps.map (·.1) ++ gs.map G.name) cs ∧ ps.length ≤ 100 ∧ line.length ≤ 1000 ∧
  ∀ H' p, Same H H' → H p = none → H' p = some (.lst (sV (joinM cs now be line))) → Q (.ref p) H'
theorem ok_joining {f C : Addr} {fd : FuncData} (F : L2.Fun K "joining" "joining" s_joining f fd) (T : Nm mg) (L : PlC K mg C) (R_causes : PropC P w K mg base C "causes" "_causes") :
    FnOk P w K mg base CX0 3 f fd ["plant", "now", "step_before", "line"] (spJoining K C) := by
  refine F.ok sc_joining (fun vs H Q E h => ?_) (fun cdv A outer s H vs Q E hr h => ?_)
  · obtain ⟨a, b, c, d, ps, gs, cs, tp, now, be, line, rfl, _⟩ := h
    rfl
  · obtain ⟨a, b, c, d, ps, gs, cs, tp, now, be, line, rfl, ho, hb, hc, hd, kn, kb, ok, hpl, hll, q⟩ := h
    obtain ⟨dx, pa, ga, ca, xs, ys, zs, h0, h1, e1, h2, e2, h3, e3⟩ := ho.ex
    have hu := hu_of hr
    have hu64 := hr.units
    refine ⟨_, (pss_cons (ps_set (i := 4) sc_joining.nd rfl (.inl rfl) (pe_lst pa_nil))
 (pss_cons (ps_for PassesOwn.never rfl (pi_sq (pe_propC R_causes L.cl (by decide) hr (pv 0) rfl)) (pg_tupK (K := K) (n := 2) rfl rfl (pgs_cons (pg_name (i := 5) sc_joining.nd rfl (.inl rfl)) (pgs_cons (pg_name (i := 6) sc_joining.nd rfl (.inl rfl)) pgs_nil)))
 (pss_one (ps_if (PW.pt (pw_and (pt_val (pe_dget hu (pv 1) (pv 5) (fun _ _ => rfl))) (pw_and1 (pt_not (pt_val (pe_dget hu (pv 2) (pv 5) (fun _ _ => rfl)))))))
 (pss_cons (ps_set (i := 7) sc_joining.nd rfl (.inr rfl) (pe_op op_cat (pv 3) (pv 4)))
 (pss_one (ps_expr (pe_bm PySem.F.plainAttrs_list PySem.F.slot_list_extend PySem.F.type_list_extend mt_extend (pv 4) (pa_cons (pe_lc (own := [("name", 8)]) (g := gName 8) (by rfl) sc_joining.nd (pi_sq (pv 6)) (blkOk_by (own := [("name", 8)]) (N := ["plant", "now", "step_before", "line", "parts_joining", "trigger", "parts", "waiting", "name"]) (sc := defScope s_joining) (by decide +kernel)) (fun _ _ _ _ _ => pg_name (i := 8) sc_joining.nd rfl (.inl rfl)) (fun _ _ _ _ _ => pts_one (PW.pt (pw_and (pt_not (pt_val (pe_dget hu (pv 1) (pv 8) (fun _ _ => rfl)))) (pw_and1 (pt_cmpR (op_notInK (K := K) rfl) (pv 8) (pv 7) (by with_unfolding_all rfl)))))) (fun _ _ _ _ _ => (pv 8))) pa_nil)))))
 pss_nil)))
 (pss_one (ps_ret (pv 4))))), ?_⟩
    refine ⟨Nat.zero_le _, fun M nM => ?_⟩
    have s0 : Same H (upd H M (.lst [])) := Same.new nM
    have c100 : ∀ c ∈ cs, c.2.length ≤ 100 := fun c hc => by
      have := choice_le (ok.each c hc).ch
      rw [List.length_map] at this
      omega
    obtain ⟨dg, hdg⟩ := (Sq.b (K := K) (.inr h3) : ∃ b, Sqb b K H ca zs)
    refine ⟨.ref a, rfl, a, dx, _, rfl, s0 _ _ h0, a, dx, _, _, rfl, s0 _ _ h0, plF_c, ca, dg, rfl, ⟨_, Same.sqb s0 hdg⟩, for_it (walk_sq (xs := zs)) (fun i σ H2 => ∃ y5 y6 y7 y8, σ = [some (.ref a), some (.ref b), some (.ref c), some (.ref d), some (.ref M), y5, y6, y7, y8] ∧ Same H H2 ∧ H2 M = some (.lst (sV ((cs.take i).foldl (join1 now be line) [])))) ⟨_, _, _, _, rfl, s0, upd_same⟩ (fun i σ H2 hi p => ?_) (fun i x σ H2 H3 hi p y => ?_) (fun σ H2 p => ?_)⟩
    · obtain ⟨_, _, _, _, _, sm, _⟩ := p
      exact Same.sqb sm hdg
    · obtain ⟨y5, y6, y7, y8, rfl, sm, hM⟩ := p
      obtain ⟨rfl, hx⟩ := y
      obtain ⟨cc, hcc, r⟩ := e3.2 i x hx
      obtain ⟨t, u, rfl, ht, hu2⟩ := CauseAt.kt (Same.kt sm) r
      have hmem := List.mem_of_getElem? hcc
      have hok := ok.each cc hmem
      have hi2 : i < cs.length := (List.getElem?_eq_some_iff.mp hcc).1
      have suc := fold_succ (join1 now be line) ([] : List Str) hcc
      have hlen : ((cs.take i).foldl (join1 now be line) []).length ≤ 800 := by
        have h1 := join_le (now := now) (before := be) (line := line) (cs.take i) [] fun c hc => c100 c (List.mem_of_mem_take hc)
        have h2 := ok.hi
        rw [List.length_take] at h1
        simp at h1
        omega
      have k1 : KeyIn now cc.1 := kn _ hok.trig
      have k2 : KeyIn be cc.1 := kb _ hok.trig
      refine ⟨t, _, rfl, ht, rfl, .str cc.1, _, rfl, .ref u, [], rfl, rfl, ?_⟩
      refine tAnd_pure (lookT now cc.1) (!lookT be cc.1) (fun Q' q' => ⟨.ref b, rfl, .str cc.1, rfl, b, _, rfl, k1.look (sm _ _ hb), _, rfl, q'⟩) (fun _ Q' q' => ?_) ?_
      · exact ⟨.ref c, rfl, .str cc.1, rfl, c, _, rfl, k2.look (sm _ _ hc), _, rfl, q'⟩
      · refine ite2 (fun e => ?_) (fun e => ?_)
        · generalize eacc : (cs.take i).foldl (join1 now be line) [] = acc at hM hlen suc
          refine ⟨.ref d, rfl, .ref M, rfl, d, M, _, _, rfl, rfl, sm _ _ hd, hM, by rw [sizeLine_eq]; simp [sV]; omega, fun W nW => ?_⟩
          have s4 : Same H3 (upd H3 W (.lst (sV line ++ sV acc))) := Same.new nW
          have eW : sV line ++ sV acc = sV (line ++ acc) := by simp [sV]
          refine ⟨.ref M, rfl, .inl ⟨rfl, _, .of (s4 _ _ hM)⟩, .ref u, rfl, u, false, rfl, ⟨_, Same.sqt s4 hu2⟩, fun D nD => ?_⟩
          refine lc_it (walk_sq (xs := sV cc.2)) (LP _ D fun j => sV ((cc.2.take j).filter (joinOk now (line ++ acc)))) (LP.zero nD rfl) (fun _ _ _ p => Same.sqb (b := false) p.sm (Same.sqt s4 hu2)) (fun j x H4 H5 hj p y => ?_) (fun H4 p => ?_)
          · obtain ⟨rfl, hx⟩ := y
            obtain ⟨hj2, rfl⟩ := sV_get hx
            have hmn : cc.2[j] ∈ ps.map (·.1) := hok.ch.sub _ (List.getElem_mem hj2)
            have kj : KeyIn now cc.2[j] := kn _ (List.mem_append.mpr (.inl hmn))
            have s5 := s4.trans p.sm
            have suc2 : (cc.2.take (j + 1)).filter (joinOk now (line ++ acc)) = (cc.2.take j).filter (joinOk now (line ++ acc)) ++ (if joinOk now (line ++ acc) cc.2[j] = true then [cc.2[j]] else []) := by
              rw [take_sV hj2, List.filter_append, filter_one]
            refine ⟨rfl, tAnd_pure (!lookT now cc.2[j]) (!decide (cc.2[j] ∈ line ++ acc)) (fun Q' q' => ⟨.ref b, rfl, .str cc.2[j], rfl, b, _, rfl, kj.look (s5 _ _ (sm _ _ hb)), _, rfl, q'⟩) (fun _ Q' q' => ?_) ?_⟩
            · refine ⟨.str cc.2[j], rfl, .ref W, rfl, W, _, rfl, .inl (.of (p.sm _ _ (by rw [upd_same, eW]))), rfl, flat_sV _, !decide (cc.2[j] ∈ line ++ acc), ?_, q'⟩
              show V.bl (!inV (.str cc.2[j]) (sV _)) = _
              rw [inV_sV]
            · have ec : (!lookT now cc.2[j] && !decide (cc.2[j] ∈ line ++ acc)) = joinOk now (line ++ acc) cc.2[j] := rfl
              rw [ec]
              refine ite2 (fun e => ?_) (fun e => ?_)
              · refine ⟨.str cc.2[j], rfl, p.put nD (Same.refl _) (by rw [suc2, if_pos e]; simp [sV]) ?_⟩
                have h1 : ((cc.2.take j).filter (joinOk now (line ++ acc))).length ≤ (cc.2.take j).length := List.length_filter_le ..
                have h2 := c100 cc hmem
                rw [sizeLine_eq]
                simp [sV] at h1 ⊢
                omega
              · exact p.skip (Same.refl _) (by rw [suc2, if_neg e, List.append_nil])
          · have el : (sV cc.2).length = cc.2.length := List.length_map ..
            have hD : H4 D = some (.lst (sV (cc.2.filter (joinOk now (line ++ acc))))) := by rw [p.at_, el, List.take_length]
            have s5 := s4.trans p.sm
            have hlen2 : (cc.2.filter (joinOk now (line ++ acc))).length ≤ 100 := Nat.le_trans (List.length_filter_le ..) (c100 cc hmem)
            refine ⟨M, D, _, _, rfl, rfl, s5 _ _ hM, hD, by rw [sizeLine_eq]; simp [sV]; omega, ?_⟩
            refine ⟨_, _, _, _, rfl, Same.at (sm.trans s5) nM, ?_⟩
            rw [upd_same, suc]
            unfold join1
            rw [if_pos (by simpa using e)]
            simp [sV]
        · refine ⟨_, _, _, _, rfl, sm, ?_⟩
          rw [suc, hM]
          unfold join1
          rw [if_neg (by simpa using e)]
    · obtain ⟨_, _, _, _, rfl, sm, hM⟩ := p
      rw [e3.1, List.take_length] at hM
      exact ⟨.ref M, rfl, q _ M sm nM hM⟩
end
end Kf

set_option Elab.async false
set_option linter.all false
set_option maxRecDepth 100000
set_option maxHeartbeats 2000000
namespace Kf
open PySem PySem.Spec PyProof.Rows L2
/-! ## what is told, name by name -/
theorem look_parts_at {fl : List Str} {ps : List (Str × Str)} {m : Str} (h : m ∈ ps.map (·.1)) : lookT (partsTr fl ps) m = decide (m ∈ fl) := by
  have key : ∀ (ps : List (Str × Str)) (tr : Tr), (m ∈ ps.map (·.1) ∨ lookT tr m = decide (m ∈ fl)) → lookT (ps.foldl (part1 fl) tr) m = decide (m ∈ fl) := by
    intro ps
    induction ps with
    | nil => exact fun tr h => h.elim (fun z => by cases z) id
    | cons p r ih =>
      intro tr h
      refine ih _ ?_
      by_cases e : m = p.1
      · refine .inr ?_
        show lookT (setA tr p.1 (decide (p.1 ∈ fl))) m = _
        rw [look_set, if_pos e, e]
      · rcases h with h | h
        · rcases List.mem_cons.mp h with z | z
          · exact absurd z e
          · exact .inl z
        · refine .inr ?_
          show lookT (setA tr p.1 (decide (p.1 ∈ fl))) m = _
          rw [look_set, if_neg e]
          exact h
  exact key ps [] (.inl h)
def ReadsN (known : List Str) : G → Prop
  | .all _ ins => ∀ x ∈ ins, x ∈ known
  | .any _ ins => ∀ x ∈ ins, x ∈ known
  | .least _ _ ins => ∀ x ∈ ins, x ∈ known
  | .before _ x y => x ∈ known ∧ y ∈ known
  | .spare _ _ => True
/-- names that are all different -/
structure NmsOk (ps : List (Str × Str)) (gs : List G) : Prop where
  gn : (gs.map G.name).Nodup
  pg : ∀ x ∈ ps.map (·.1), ¬ x ∈ gs.map G.name
  rd : ∀ i g, gs[i]? = some g → ReadsN (ps.map (·.1) ++ (gs.take i).map G.name) g
theorem nmsOk_of {ps : List (Str × Str)} {gs : List G} (h : GP (ps.map (·.1)) gs) : NmsOk ps gs := by
  have new : ∀ i g, gs[i]? = some g → ¬ g.name ∈ ps.map (·.1) ++ (gs.take i).map G.name := fun i g hg => (h i g hg).new
  refine ⟨?_, fun x hx hm => ?_, fun i g hg => ?_⟩
  · refine List.pairwise_iff_getElem.mpr fun i j hi hj hij e => ?_
    rw [List.length_map] at hi hj
    have hg : gs[j]? = some gs[j] := List.getElem?_eq_getElem hj
    refine new j _ hg (List.mem_append.mpr (.inr ?_))
    rw [List.getElem_map, List.getElem_map] at e
    rw [← e]
    refine List.mem_map.mpr ⟨gs[i], ?_, rfl⟩
    exact List.mem_iff_getElem.mpr ⟨i, by rw [List.length_take]; omega, by rw [List.getElem_take]⟩
  · obtain ⟨g, hg, rfl⟩ := List.mem_map.mp hm
    obtain ⟨i, hi⟩ := List.mem_iff_getElem?.mp hg
    exact new i g hi (List.mem_append.mpr (.inl hx))
  · have ok := (h i g hg).ins
    cases g with
    | all n ins => exact ChoiceOk.sub ok
    | any n ins => exact ChoiceOk.sub ok
    | least n m ins => exact ChoiceOk.sub ok.1
    | before n x y => exact ⟨ok.sub x (by simp), ok.sub y (by simp)⟩
    | spare n qs => trivial
section
variable {ps : List (Str × Str)} {gs : List G} {us : Uses} {fl : List Str} {bf : G → Tr → Bool}
theorem tell_part (N : NmsOk ps gs) {m : Str} (h : m ∈ ps.map (·.1)) : lookT (tellM bf fl us ps gs) m = decide (m ∈ fl) := by
  unfold tellM
  rw [look_tell _ _ (N.pg m h), look_parts_at h]
/-- a name that is known behind i gates keeps its truth -/
theorem tell_keep (N : NmsOk ps gs) {i : Nat} {x : Str} (h : x ∈ ps.map (·.1) ++ (gs.take i).map G.name) : lookT (tellM bf fl us ps gs) x = lookT ((gs.take i).foldl (tell1 bf us) (partsTr fl ps)) x := by
  unfold tellM
  conv => lhs; rw [← List.take_append_drop i gs]
  rw [List.foldl_append]
  refine look_tell _ _ fun hm => ?_
  have nd := N.gn
  rw [← List.take_append_drop i gs, List.map_append] at nd
  rcases List.mem_append.mp h with h | h
  · refine N.pg x h ?_
    rw [← List.take_append_drop i gs, List.map_append]
    exact List.mem_append.mpr (.inr hm)
  · exact (List.nodup_append.mp nd).2.2 x h x hm rfl
/-- what a gate tells, by the truths of all -/
def truthF (bf : G → Tr → Bool) (us : Uses) (tr : Tr) : G → Bool
  | .before n x y => bf (.before n x y) tr
  | g => gTruth tr us g
def LocalB (bf : G → Tr → Bool) : Prop := ∀ n x y tr tr', lookT tr x = lookT tr' x → lookT tr y = lookT tr' y → bf (.before n x y) tr = bf (.before n x y) tr'
theorem all_congr {l : List Str} {t t' : Tr} (h : ∀ x ∈ l, lookT t x = lookT t' x) : l.all (lookT t) = l.all (lookT t') := by
  induction l with
  | nil => rfl
  | cons x r ih => rw [List.all_cons, List.all_cons, h x (List.mem_cons_self ..), ih fun y hy => h y (List.mem_cons_of_mem _ hy)]
theorem any_congr {l : List Str} {t t' : Tr} (h : ∀ x ∈ l, lookT t x = lookT t' x) : l.any (lookT t) = l.any (lookT t') := by
  induction l with
  | nil => rfl
  | cons x r ih => rw [List.any_cons, List.any_cons, h x (List.mem_cons_self ..), ih fun y hy => h y (List.mem_cons_of_mem _ hy)]
theorem filter_congr2 {l : List Str} {t t' : Tr} (h : ∀ x ∈ l, lookT t x = lookT t' x) : l.filter (lookT t) = l.filter (lookT t') := List.filter_congr h
theorem tell_gate (N : NmsOk ps gs) (lb : LocalB bf) {g : G} (hg : g ∈ gs) : lookT (tellM bf fl us ps gs) g.name = truthF bf us (tellM bf fl us ps gs) g := by
  obtain ⟨i, hi⟩ := List.mem_iff_getElem?.mp hg
  have hlt : i < gs.length := (List.getElem?_eq_some_iff.mp hi).1
  have suc := fold_succ (tell1 bf us) (partsTr fl ps) hi
  have hn : g.name ∈ ps.map (·.1) ++ (gs.take (i + 1)).map G.name := by
    refine List.mem_append.mpr (.inr (List.mem_map.mpr ⟨g, ?_, rfl⟩))
    rw [List.take_add_one, hi]
    simp
  rw [tell_keep N hn, suc]
  unfold tell1
  rw [look_set, if_pos rfl]
  have rd := N.rd i g hi
  have kp : ∀ x ∈ ps.map (·.1) ++ (gs.take i).map G.name, lookT ((gs.take i).foldl (tell1 bf us) (partsTr fl ps)) x = lookT (tellM bf fl us ps gs) x := fun x hx => (tell_keep N hx).symm
  cases g with
  | all n ins => exact all_congr fun x hx => kp x (rd x hx)
  | any n ins => exact any_congr fun x hx => kp x (rd x hx)
  | least n m ins =>
    show decide (m ≤ (((ins.filter (lookT ((gs.take i).foldl (tell1 bf us) (partsTr fl ps)))).length : Nat) : Int)) = decide (m ≤ (((ins.filter (lookT (tellM bf fl us ps gs))).length : Nat) : Int))
    rw [filter_congr2 fun x hx => kp x (rd x hx)]
  | before n x y => exact lb n x y _ _ (kp x rd.1) (kp y rd.2)
  | spare n qs => rfl
theorem local_held (hd : List Str) : LocalB (bfHeld hd) := fun _ _ _ _ _ _ _ => rfl
theorem local_now (ea : Tr) : LocalB (bfNow ea) := fun n x y tr tr' h1 h2 => by
  show came n x y tr ea = came n x y tr' ea
  unfold came
  rw [h1, h2]
theorem local_no : LocalB noBefore := fun _ _ _ _ _ _ _ => rfl
end
/-! ## the line of failures -/
structure FS where
  line : List Str
  failed : List Str
  fallen : List Str
  uses : Uses
  now : Tr
def fstep (ps : List (Str × Str)) (gs : List G) (cs : List (Str × List Str)) (ea : Tr) (s : FS) : FS := match s.line with
  | [] => s
  | n :: r => ⟨r ++ joinM cs (truthsNow ps gs (s.failed ++ [n]) (takeU (s.failed ++ [n]) s.uses gs) ea) s.now r, s.failed ++ [n], s.fallen ++ [n], takeU (s.failed ++ [n]) s.uses gs, truthsNow ps gs (s.failed ++ [n]) (takeU (s.failed ++ [n]) s.uses gs) ea⟩
def fall (ps : List (Str × Str)) (gs : List G) (cs : List (Str × List Str)) (ea : Tr) : Nat → FS → FS
  | 0, s => s
  | k + 1, s => if s.line.isEmpty = true then s else fall ps gs cs ea k (fstep ps gs cs ea s)
structure JoinR (ps : List (Str × Str)) (now : Tr) (line acc : List Str) : Prop where
  nd : acc.Nodup
  sub : ∀ x ∈ acc, x ∈ ps.map (·.1)
  off : ∀ x ∈ acc, lookT now x = false
  new : ∀ x ∈ acc, ¬ x ∈ line
theorem join_ok {ps : List (Str × Str)} {gs : List G} {cs : List (Str × List Str)} {now before : Tr} {line : List Str} (ok : CausesOk (ps.map (·.1)) (ps.map (·.1) ++ gs.map G.name) cs) : JoinR ps now line (joinM cs now before line) := by
  have key : ∀ (l : List (Str × List Str)) (acc : List Str), (∀ c ∈ l, c ∈ cs) → JoinR ps now line acc → JoinR ps now line (l.foldl (join1 now before line) acc) := by
    intro l
    induction l with
    | nil => exact fun acc _ h => h
    | cons c r ih =>
      intro acc hs h
      refine ih _ (fun x hx => hs x (List.mem_cons_of_mem _ hx)) ?_
      have hc := ok.each c (hs c (List.mem_cons_self ..))
      unfold join1
      split
      · have hf : ∀ x ∈ c.2.filter (joinOk now (line ++ acc)), x ∈ c.2 ∧ lookT now x = false ∧ ¬ x ∈ line ∧ ¬ x ∈ acc := fun x hx => by
          obtain ⟨h1, h2⟩ := List.mem_filter.mp hx
          unfold joinOk at h2
          simp at h2
          exact ⟨h1, h2.1, h2.2.1, h2.2.2⟩
        refine ⟨List.nodup_append.mpr ⟨h.nd, hc.ch.nd.filter _, fun x hx y hy e => (hf y hy).2.2.2 (e ▸ hx)⟩, fun x hx => ?_, fun x hx => ?_, fun x hx => ?_⟩
        · rcases List.mem_append.mp hx with z | z
          · exact h.sub x z
          · exact hc.ch.sub x (hf x z).1
        · rcases List.mem_append.mp hx with z | z
          · exact h.off x z
          · exact (hf x z).2.1
        · rcases List.mem_append.mp hx with z | z
          · exact h.new x z
          · exact (hf x z).2.2.1
      · exact h
  exact key cs [] (fun c h => h) ⟨List.nodup_nil, (fun x h => by cases h), (fun x h => by cases h), (fun x h => by cases h)⟩
structure FInv (ps : List (Str × Str)) (gs : List G) (us0 : Uses) (s : FS) : Prop where
  lnd : s.line.Nodup
  fnd : s.failed.Nodup
  lsub : ∀ x ∈ s.line, x ∈ ps.map (·.1)
  fsub : ∀ x ∈ s.failed, x ∈ ps.map (·.1)
  dis : ∀ x ∈ s.line, ¬ x ∈ s.failed
  keys : s.uses.map (·.1) = us0.map (·.1)
  all : KeyAll ps gs s.now
theorem spareIn_keys {us us' : Uses} {gs : List G} (e : us.map (·.1) = us'.map (·.1)) (h : SpareIn us' gs) : SpareIn us gs := fun n ps hm => by
  rw [any_keys e]
  exact h n ps hm
theorem takeU_keysOf {fl : List Str} {us us0 : Uses} {gs : List G} (e : us.map (·.1) = us0.map (·.1)) (h : SpareIn us0 gs) : (takeU fl us gs).map (·.1) = us0.map (·.1) := (takeU_keys (spareIn_keys e h)).trans e
theorem FInv.step {ps : List (Str × Str)} {gs : List G} {cs : List (Str × List Str)} {ea : Tr} {us0 : Uses} {s : FS} (N : NmsOk ps gs) (hs : SpareIn us0 gs) (ok : CausesOk (ps.map (·.1)) (ps.map (·.1) ++ gs.map G.name) cs) (h : FInv ps gs us0 s) : FInv ps gs us0 (fstep ps gs cs ea s) := by
  unfold fstep
  cases e : s.line with
  | nil => exact h
  | cons n r =>
    have hl := h.lnd
    have hd := h.dis
    have hls := h.lsub
    rw [e] at hl hd hls
    have hl2 := List.nodup_cons.mp hl
    have J := join_ok (ps := ps) (gs := gs) (now := truthsNow ps gs (s.failed ++ [n]) (takeU (s.failed ++ [n]) s.uses gs) ea) (before := s.now) (line := r) ok
    refine ⟨List.nodup_append.mpr ⟨hl2.2, J.nd, fun x hx y hy e => J.new y hy (e ▸ hx)⟩, List.nodup_append.mpr ⟨h.fnd, by simp, fun x hx y hy e2 => ?_⟩, fun x hx => ?_, fun x hx => ?_, fun x hx hm => ?_, takeU_keysOf h.keys hs, keyAll_tell⟩
    · obtain rfl := List.mem_singleton.mp hy
      exact hd y (List.mem_cons_self ..) (e2 ▸ hx)
    · rcases List.mem_append.mp hx with z | z
      · exact hls x (List.mem_cons_of_mem _ z)
      · exact J.sub x z
    · rcases List.mem_append.mp hx with z | z
      · exact h.fsub x z
      · obtain rfl := List.mem_singleton.mp z
        exact hls x (List.mem_cons_self ..)
    · rcases List.mem_append.mp hx with z | z
      · rcases List.mem_append.mp hm with w | w
        · exact hd x (List.mem_cons_of_mem _ z) w
        · obtain rfl := List.mem_singleton.mp w
          exact hl2.1 z
      · have off := J.off x z
        unfold truthsNow at off
        rw [tell_part N (J.sub x z), decide_eq_false_iff_not] at off
        exact off hm
theorem FInv.room {ps : List (Str × Str)} {gs : List G} {us0 : Uses} {s : FS} (h : FInv ps gs us0 s) : s.failed.length + s.line.length ≤ ps.length := by
  have e : (s.failed ++ s.line).Nodup := List.nodup_append.mpr ⟨h.fnd, h.lnd, fun x hx y hy e => h.dis y hy (e ▸ hx)⟩
  have := pigeon e (l2 := ps.map (·.1)) fun x hx => by
    rcases List.mem_append.mp hx with z | z
    · exact h.fsub x z
    · exact h.lsub x z
  simpa using this
end Kf

set_option Elab.async false
set_option linter.all false
set_option maxRecDepth 100000
set_option maxHeartbeats 2000000
namespace Kf
open PySem PySem.Spec PyProof.Rows L2 LamX NdefX TL
/-! ## runs.py: events -/
structure RunOk (ps : List (Str × Str)) (gs : List G) (cs : List (Str × List Str)) (tp : Str) (us : Uses) : Prop where
  pl : PlantOk ps gs cs tp
  sp : SpareIn us gs
  nd : KeysNd us
  ul : us.length ≤ 8
theorem RunOk.gp {ps : List (Str × Str)} {gs : List G} {cs : List (Str × List Str)} {tp : Str} {us : Uses} (h : RunOk ps gs cs tp us) : GP (ps.map (·.1)) gs := h.pl.gates.each
theorem RunOk.nms {ps : List (Str × Str)} {gs : List G} {cs : List (Str × List Str)} {tp : Str} {us : Uses} (h : RunOk ps gs cs tp us) : NmsOk ps gs := nmsOk_of h.gp
theorem RunOk.tell {ps : List (Str × Str)} {gs : List G} {cs : List (Str × List Str)} {tp : Str} {us us' : Uses} (h : RunOk ps gs cs tp us) (e : us'.map (·.1) = us.map (·.1)) : TellOk ps us' gs := tellOk_of h.gp (by have := h.pl.parts.hi; omega) (by have := h.pl.gates.hi; omega) (spareIn_keys e h.sp)
theorem RunOk.keys {ps : List (Str × Str)} {gs : List G} {cs : List (Str × List Str)} {tp : Str} {us us' : Uses} (h : RunOk ps gs cs tp us) (e : us'.map (·.1) = us.map (·.1)) : RunOk ps gs cs tp us' :=
  ⟨h.pl, spareIn_keys e h.sp, by unfold KeysNd; rw [e]; exact h.nd, by have h1 := congrArg List.length e; rw [List.length_map, List.length_map] at h1; have := h.ul; omega⟩
theorem RunOk.pool {ps : List (Str × Str)} {gs : List G} {cs : List (Str × List Str)} {tp : Str} {us : Uses} (h : RunOk ps gs cs tp us) : ∀ n qs, G.spare n qs ∈ gs → qs.length ≤ 1000 := fun n qs hm => by
  have h1 := h.gp.pool n qs hm
  have h2 := h.pl.parts.hi
  rw [List.length_map] at h1
  omega
structure FailOk (ps : List (Str × Str)) (fl : List Str) : Prop where
  nd : fl.Nodup
  sub : ∀ x ∈ fl, x ∈ ps.map (·.1)
theorem FailOk.len {ps : List (Str × Str)} {fl : List Str} (h : FailOk ps fl) : fl.length ≤ ps.length := by
  have := pigeon h.nd h.sub
  simpa using this
/-- what stands behind a failure -/
def failEnd (ps : List (Str × Str)) (gs : List G) (cs : List (Str × List Str)) (fl : List Str) (us : Uses) (hd : List Str) (n : Str) : FS :=
  fall ps gs cs (truthsIn ps gs fl us hd) (ps.length - fl.length) ⟨[n], fl, [], us, truthsIn ps gs fl us hd⟩
theorem Sm.dict {T : List NTab} {H H' : Hp} {a : Addr} {kvs : List (Key × V)} (s : Sm T H H') (h : H a = some (.dK kvs)) : H' a = some (.dK kvs) := s.lst h (by intro _ z; cases z)
theorem Sm.list {T : List NTab} {H H' : Hp} {a : Addr} {xs : List V} (s : Sm T H H') (h : H a = some (.lst xs)) : H' a = some (.lst xs) := s.lst h (by intro _ z; cases z)
theorem dk_upd {H : Hp} {a b : Addr} {k : List (Key × V)} {l l' : List V} (h : H a = some (.dK k)) (hb : H b = some (.lst l)) : (upd H b (.lst l')) a = some (.dK k) := by
  rw [upd_ne (ne_of h hb (by intro z; cases z))]
  exact h
theorem fall_nil {ps : List (Str × Str)} {gs : List G} {cs : List (Str × List Str)} {ea : Tr} {s : FS} (h : s.line = []) : ∀ k, fall ps gs cs ea k s = s
  | 0 => rfl
  | k + 1 => by
    unfold fall
    rw [h]
    rfl
theorem fall_cons {ps : List (Str × Str)} {gs : List G} {cs : List (Str × List Str)} {ea : Tr} {s : FS} {x : Str} {r : List Str} (h : s.line = x :: r) (k : Nat) : fall ps gs cs ea (k + 1) s = fall ps gs cs ea k (fstep ps gs cs ea s) := by
  conv => lhs; unfold fall
  rw [h]
  rfl
theorem fstep_cons {ps : List (Str × Str)} {gs : List G} {cs : List (Str × List Str)} {ea : Tr} {s : FS} {x : Str} {r : List Str} (h : s.line = x :: r) : fstep ps gs cs ea s = ⟨r ++ joinM cs (truthsNow ps gs (s.failed ++ [x]) (takeU (s.failed ++ [x]) s.uses gs) ea) s.now r, s.failed ++ [x], s.fallen ++ [x], takeU (s.failed ++ [x]) s.uses gs, truthsNow ps gs (s.failed ++ [x]) (takeU (s.failed ++ [x]) s.uses gs) ea⟩ := by
  unfold fstep
  rw [h]
/-- the line's state, as the heap has it -/
structure LS (T0 : List NTab) (ps : List (Str × Str)) (gs : List G) (cs : List (Str × List Str)) (us0 : Uses) (EA : Tr) (H : Hp) (ea fa fb : Addr) (R s : FS) (u w l : Addr) (H2 : Hp) : Prop where
  sm : Sm T0 H H2
  hea : H2 ea = some (.dK (dS V.bl EA))
  hfa : H2 fa = some (.lst (sV s.failed))
  hu : H2 u = some (.dK (dS V.str s.uses))
  hw : H2 w = some (.dK (dS V.bl s.now))
  hfb : H2 fb = some (.lst (sV s.fallen))
  hl : H2 l = some (.lst (sV s.line))
  n1 : fa ≠ fb
  n2 : l ≠ fa
  n3 : l ≠ fb
  nl : H l = none
  nfa : H fa = none
  nfb : H fb = none
  inv : FInv ps gs us0 s
  fal : s.fallen.length ≤ s.failed.length
  run : fall ps gs cs EA (ps.length - s.failed.length) s = R
section
variable {P : Program} {w : World} {K : PySem.W.Frag} {mg : Str → Option Value} {base : Heap}
def spAfterF (K : PySem.W.Frag) (C : Addr) (T0 : List NTab) : Sp := fun vs H Q _ => ∃ a v n ps gs cs tp fl us hd, vs = [.ref a, v, .str n] ∧ PlObj K C H a ps gs cs tp ∧ StAt K H v fl us hd ∧ RunOk ps gs cs tp us ∧ FailOk ps fl ∧ n ∈ ps.map (·.1) ∧ ¬ n ∈ fl ∧ TabsN T0 H ∧
  ∀ H' p v' t, Sm T0 H H' → SqT K H' p [v', .ref t] → StAt K H' v' (srtS (failEnd ps gs cs fl us hd n).failed) (failEnd ps gs cs fl us hd n).uses (heldOf gs (failEnd ps gs cs fl us hd n).now) → SqT K H' t (sV (failEnd ps gs cs fl us hd n).fallen) → Q (.ref p) H'
theorem ok_after_failure {f C : Addr} {fd : FuncData} {T0 : List NTab} (F : L2.Fun K "after_failure" "after_failure" s_after_failure f fd) (T : Nm mg) (L : PlC K mg C) (R_gates : PropC P w K mg base C "gates" "_gates") (C_truths_in : Cal P w K mg base 5 "truths_in" ["plant", "state"] (spTruthsIn K C T0))
    (C_take : Cal P w K mg base 1 "take" ["gates", "uses", "failed"] (spTakeU K)) (C_truths_now : Cal P w K mg base 5 "truths_now" ["plant", "failed", "uses", "earlier"] (spTruthsNow K C T0)) (C_joining : Cal P w K mg base 3 "joining" ["plant", "now", "step_before", "line"] (spJoining K C)) (C_state_of : Cal P w K mg base 3 "state_of" ["plant", "failed", "uses", "truths"] (spStateOf K C)) :
    FnOk P w K mg base CX0 6 f fd ["plant", "state", "part"] (spAfterF K C T0) := by
  refine F.ok sc_after_failure (fun vs H Q E h => ?_) (fun cdv A outer s H vs Q E hr h => ?_)
  · obtain ⟨a, v, n, ps, gs, cs, tp, fl, us, hd, rfl, _⟩ := h
    rfl
  · obtain ⟨a, v, n, ps, gs, cs, tp, fl, us, hd, rfl, ho, hst, ok, fok, hn, hnf, hT, q⟩ := h
    obtain ⟨dx, pa, ga, ca, xs, ys, zs, h0, h1, e1, h2, e2, h3, e3⟩ := ho.ex
    obtain ⟨sa, sb, sc, sd, ts, rfl, t1, t2, t3, t4, t5⟩ := hst.ex
    have hpl := ok.pl.parts.hi
    have hgl := ok.pl.gates.hi
    have hu := hu_of hr
    have hu64 := hr.units
    refine ⟨_, (pss_cons (ps_set (i := 3) sc_after_failure.nd rfl (.inl rfl) (pe_cal C_truths_in (by decide) hr (by rfl) (pa_cons (pv 0) (pa_cons (pv 1) pa_nil))))
 (pss_cons (ps_set (i := 4) sc_after_failure.nd rfl (.inl rfl) (pe_callTy call_list_of (by rfl) T.n_list (by decide +kernel) (pa_cons (pe_ix (ix_sqK (K := K) rfl) (pv 1) pe_int (fun _ _ => rfl)) pa_nil)))
 (pss_cons (ps_set (i := 5) sc_after_failure.nd rfl (.inl rfl) (pe_callTy (call_dictPT rfl) (by rfl) T.n_dict (by decide +kernel) (pa_cons (pe_ix (ix_sqK (K := K) rfl) (pv 1) pe_int (fun _ _ => rfl)) pa_nil)))
 (pss_cons (ps_set (i := 6) sc_after_failure.nd rfl (.inl rfl) (pv 3))
 (pss_cons (ps_set (i := 7) sc_after_failure.nd rfl (.inl rfl) (pe_lst pa_nil))
 (pss_cons (ps_set (i := 8) sc_after_failure.nd rfl (.inl rfl) (pe_lst (pa_cons (pv 2) pa_nil)))
 (pss_cons (ps_while PassesOwn.never (pt_truth (pv 8) (by intro _; rfl)) (pss_cons (ps_set (i := 9) sc_after_failure.nd rfl (.inl rfl) (pe_bm PySem.F.plainAttrs_list PySem.F.slot_list_pop PySem.F.type_list_pop mt_popAt (pv 8) (pa_cons pe_int pa_nil)))
 (pss_cons (ps_expr (pe_bm PySem.F.plainAttrs_list PySem.F.slot_list_append PySem.F.type_list_append mt_append (pv 4) (pa_cons (pv 9) pa_nil)))
 (pss_cons (ps_expr (pe_bm PySem.F.plainAttrs_list PySem.F.slot_list_append PySem.F.type_list_append mt_append (pv 7) (pa_cons (pv 9) pa_nil)))
 (pss_cons (ps_set (i := 10) sc_after_failure.nd rfl (.inl rfl) (pv 6))
 (pss_cons (ps_set (i := 5) sc_after_failure.nd rfl (.inl rfl) (pe_cal C_take (by decide) hr (by rfl) (pa_cons (pe_propC R_gates L.cl (by decide) hr (pv 0) rfl) (pa_cons (pv 5) (pa_cons (pv 4) pa_nil)))))
 (pss_cons (ps_set (i := 6) sc_after_failure.nd rfl (.inl rfl) (pe_cal C_truths_now (by decide) hr (by rfl) (pa_cons (pv 0) (pa_cons (pv 4) (pa_cons (pv 5) (pa_cons (pv 3) pa_nil))))))
 (pss_one (ps_set (i := 8) sc_after_failure.nd rfl (.inl rfl) (pe_op op_cat (pv 8) (pe_cal C_joining (by decide) hr (by rfl) (pa_cons (pv 0) (pa_cons (pv 6) (pa_cons (pv 10) (pa_cons (pv 8) pa_nil)))))))))))))))
 (pss_one (ps_ret (pe_tup (pa_cons (pe_cal C_state_of (by decide) hr (by rfl) (pa_cons (pv 0) (pa_cons (pv 4) (pa_cons (pv 5) (pa_cons (pv 6) pa_nil))))) (pa_cons (pe_callTy (call_tupQ (K := K) rfl) (by rfl) T.n_tuple (by decide +kernel) (pa_cons (pv 7) pa_nil)) pa_nil)))))))))))), ?_⟩
    refine ⟨.ref a, rfl, .ref sa, rfl, a, .ref sa, ps, gs, cs, tp, fl, us, hd, rfl, ho, hst, ok.nd, ok.tell rfl, hT, fun H1 ea sm1 nea hea => ?_⟩
    refine ⟨.ref sa, rfl, sa, _, 0, .ref sb, rfl, rfl, .inr (sm1.sqt t1), rfl, sb, sV fl, rfl, .inr (sm1.sqt t2), fun fa nfa => ?_⟩
    have s2 : Same H1 (upd H1 fa (.lst (sV fl))) := Same.new nfa
    have sm2 := sm1.trans (Same.sm (T := T0) s2)
    refine ⟨.ref sa, rfl, sa, _, 1, .ref sc, rfl, rfl, .inr (sm2.sqt t1), rfl, sc, ts, dS V.str us, rfl, sm2.utup t3, pairs_to (Paired.imp2 (fun _ _ r => sm2.sqt r) t4), fun ua nua => ?_⟩
    rw [merge_uses ok.nd]
    have s3 : Same (upd H1 fa (.lst (sV fl))) (upd (upd H1 fa (.lst (sV fl))) ua (.dK (dS V.str us))) := Same.new nua
    have sm3 := sm2.trans (Same.sm (T := T0) s3)
    have nms := ok.nms
    refine ⟨.ref ea, rfl, ?_⟩
    refine ⟨Nat.zero_le _, fun fb nfb => ?_⟩
    have s4 := Same.new (o := .lst []) nfb
    refine ⟨.str n, rfl, by show 1 ≤ sizeLine; decide, fun l nl => ?_⟩
    have s5 := Same.new (o := .lst [.str n]) nl
    have sm5 := (sm3.trans (Same.sm (T := T0) s4)).trans (Same.sm (T := T0) s5)
    have s35 := s3.trans (s4.trans s5)
    have hea0 : H1 ea = some (.dK (dS V.bl (truthsIn ps gs fl us hd))) := hea
    have fa1 : (upd H1 fa (.lst (sV fl))) fa = some (.lst (sV fl)) := upd_same
    have start : LS T0 ps gs cs us (truthsIn ps gs fl us hd) H ea fa fb (failEnd ps gs cs fl us hd n) ⟨[n], fl, [], us, truthsIn ps gs fl us hd⟩ ua ea l _ :=
      ⟨sm5, s35 _ _ (s2 _ _ hea0), s35 _ _ fa1, s5 _ _ (s4 _ _ upd_same), s35 _ _ (s2 _ _ hea0), s5 _ _ upd_same, upd_same, ne_of_none (s3 _ _ fa1) nfb, (ne_of_none (s4 _ _ (s3 _ _ fa1)) nl).symm, (ne_of_none upd_same nl).symm, sm3.nn _ (s4.free nl), sm1.nn _ nfa, sm3.nn _ nfb,
        ⟨by simp, fok.nd, fun x hx => by rw [List.mem_singleton.mp hx]; exact hn, fok.sub, fun x hx => by rw [List.mem_singleton.mp hx]; exact hnf, rfl, keyAll_tell⟩, Nat.zero_le _, rfl⟩
    refine gName_of ?_
    dsimp only [tSeq]
    refine while_by (fun σ H2 => ∃ s u w l y9 y10, σ = [some (.ref a), some (.ref sa), some (.str n), some (.ref ea), some (.ref fa), some (.ref u), some (.ref w), some (.ref fb), some (.ref l), y9, y10] ∧ LS T0 ps gs cs us (truthsIn ps gs fl us hd) H ea fa fb (failEnd ps gs cs fl us hd n) s u w l H2) (fun _ H2 => match H2 fa with | some (.lst ys) => ps.length - ys.length | _ => 0)
      ⟨_, ua, ea, l, _, _, rfl, start⟩ (fun σ H2 p => ?_) ?_
    · obtain ⟨st, u, w', l', y9, y10, rfl, I⟩ := p
      have room := I.inv.room
      refine ⟨.ref l', rfl, !(sV st.line).isEmpty, .inl ⟨_, .of I.hl, rfl⟩, ?_⟩
      cases el : st.line with
      | nil =>
        refine iteF ?_
        have eR : failEnd ps gs cs fl us hd n = st := I.run.symm.trans (fall_nil el _)
        refine ⟨.ref a, rfl, .ref fa, rfl, .ref u, rfl, .ref w', rfl, ⟨a, fa, u, w', ps, gs, cs, tp, st.failed, st.uses, st.now, rfl, ho.sm I.sm, .of I.hfa, I.hu, I.hw, I.inv.all, by omega, fun H3 v' s3 hv' => ?_⟩⟩
        refine ⟨.ref fb, rfl, fb, _, rfl, .inl (.of (s3 _ _ I.hfb)), fun t H4 s4 ht => ?_⟩
        refine ⟨by show 2 ≤ sizeLine; decide, fun p np => ?_⟩
        have s5 : Same H4 (upd H4 p (.tup [v', .ref t])) := Same.new np
        have s45 := s4.trans s5
        rw [eR] at q
        exact q _ p v' t (I.sm.trans (Same.sm (s3.trans s45))) (.of upd_same) (hv'.same s45) (Same.sqt s5 ht)
      | cons x r =>
        refine iteT ?_
        have hl0 := I.hl
        rw [el] at hl0
        have sm3 : Sm T0 H (upd H2 l' (.lst (sV r))) := I.sm.at I.nl I.hl
        have fa3 : (upd H2 l' (.lst (sV r))) fa = some (.lst (sV st.failed)) := by rw [upd_ne I.n2.symm]; exact I.hfa
        have fb3 : (upd H2 l' (.lst (sV r))) fb = some (.lst (sV st.fallen)) := by rw [upd_ne I.n3.symm]; exact I.hfb
        have hlen : st.failed.length + (r.length + 1) ≤ ps.length := by
          rw [el] at room
          simpa using room
        have hfal := I.fal
        refine ⟨.ref l', rfl, .inl ⟨rfl, _, .of hl0⟩, l', sV (x :: r), 0, 0, .str x, rfl, rfl, hl0, by omega, by omega, PySem.StrLaws.seqIndex_nonneg (by omega) (by simp [sV]), rfl, ?_⟩
        have l3 : (upd H2 l' (.lst (sV r))) l' = some (.lst (sV r)) := upd_same
        have u3 := dk_upd (l' := sV r) I.hu I.hl
        have w3 := dk_upd (l' := sV r) I.hw I.hl
        have e3' := dk_upd (l' := sV r) I.hea I.hl
        show tSeq _ _ _ _ (upd H2 l' (.lst (sV r)))
        -- failed.append(name)
        refine ⟨.ref fa, rfl, .inl ⟨rfl, _, .of fa3⟩, .str x, rfl, fa, _, _, rfl, rfl, fa3, by rw [sizeLine_eq]; simp [sV]; omega, ?_⟩
        have sm4 := sm3.at (l' := sV st.failed ++ [.str x]) I.nfa fa3
        generalize eH4 : upd (upd H2 l' (.lst (sV r))) fa (.lst (sV st.failed ++ [.str x])) = H4 at sm4
        have fa4 : H4 fa = some (.lst (sV (st.failed ++ [x]))) := by rw [← eH4, upd_same, sV_snoc]
        have l4 : H4 l' = some (.lst (sV r)) := by rw [← eH4, upd_ne I.n2]; exact l3
        have fb4 : H4 fb = some (.lst (sV st.fallen)) := by rw [← eH4, upd_ne I.n1.symm]; exact fb3
        have u4 : H4 u = some (.dK (dS V.str st.uses)) := by rw [← eH4]; exact dk_upd u3 fa3
        have w4 : H4 w' = some (.dK (dS V.bl st.now)) := by rw [← eH4]; exact dk_upd w3 fa3
        have e4 : H4 ea = some (.dK (dS V.bl (truthsIn ps gs fl us hd))) := by rw [← eH4]; exact dk_upd e3' fa3
        -- fallen.append(name)
        refine ⟨.ref fb, rfl, .inl ⟨rfl, _, .of fb4⟩, .str x, rfl, fb, _, _, rfl, rfl, fb4, by rw [sizeLine_eq]; simp [sV]; omega, ?_⟩
        have sm5' := sm4.at (l' := sV st.fallen ++ [.str x]) I.nfb fb4
        generalize eH5 : upd H4 fb (.lst (sV st.fallen ++ [.str x])) = H5 at sm5'
        have fa5 : H5 fa = some (.lst (sV (st.failed ++ [x]))) := by rw [← eH5, upd_ne I.n1]; exact fa4
        have l5 : H5 l' = some (.lst (sV r)) := by rw [← eH5, upd_ne I.n3]; exact l4
        have fb5 : H5 fb = some (.lst (sV (st.fallen ++ [x]))) := by rw [← eH5, upd_same, sV_snoc]
        have u5 : H5 u = some (.dK (dS V.str st.uses)) := by rw [← eH5]; exact dk_upd u4 fb4
        have w5 : H5 w' = some (.dK (dS V.bl st.now)) := by rw [← eH5]; exact dk_upd w4 fb4
        have e5 : H5 ea = some (.dK (dS V.bl (truthsIn ps gs fl us hd))) := by rw [← eH5]; exact dk_upd e4 fb4
        have ok2 := ok.keys I.inv.keys
        -- step_before = now; uses = take(..)
        refine ⟨.ref w', rfl, ?_⟩
        refine ⟨.ref a, rfl, a, dx, _, rfl, sm5'.lst h0 (by intro _ z; cases z), a, dx, _, _, rfl, sm5'.lst h0 (by intro _ z; cases z), plF_g, .ref u, rfl, .ref fa, rfl, ⟨ga, u, fa, ys, gs, st.uses, st.failed ++ [x], rfl, .inr (sm5'.sqt h2), e2.imp fun _ _ r => GateAt.kt sm5'.kt r, u5, .inl (.of fa5), ok2.sp, by have := ok2.ul; omega, ok2.pool, fun H6 u2 s6 nu2 hu2 => ?_⟩⟩
        have sm6 := sm5'.trans (Same.sm (T := T0) s6)
        have ku : (takeU (st.failed ++ [x]) st.uses gs).map (·.1) = us.map (·.1) := takeU_keysOf I.inv.keys ok.sp
        -- now = truths_now(..)
        refine ⟨.ref a, rfl, .ref fa, rfl, .ref u2, rfl, .ref ea, rfl, ⟨a, fa, u2, ea, ps, gs, cs, tp, st.failed ++ [x], takeU (st.failed ++ [x]) st.uses gs, truthsIn ps gs fl us hd, rfl, ho.sm sm6, .inl (.of (s6 _ _ fa5)), hu2, s6 _ _ e5, keyAll_tell, ok.tell ku, sm6.tb hT, fun H7 w2 sm7 nw2 hw2 => ?_⟩⟩
        have sm7' := sm6.trans sm7
        have s67 : Sm T0 H5 H7 := (Same.sm s6).trans sm7
        -- line = line + joining(..)
        refine ⟨.ref l', rfl, .ref a, rfl, .ref w2, rfl, .ref w', rfl, .ref l', rfl, ⟨a, w2, w', l', ps, gs, cs, tp, _, st.now, r, rfl, ho.sm sm7', hw2, s67.dict w5, s67.list l5, keyAll_tell, I.inv.all, ok.pl.causes, by omega, by omega, fun H8 jn s8 nj hj => ?_⟩⟩
        have jl : (joinM cs (truthsNow ps gs (st.failed ++ [x]) (takeU (st.failed ++ [x]) st.uses gs) (truthsIn ps gs fl us hd)) st.now r).length ≤ 1000 := by
          have J := join_ok (ps := ps) (gs := gs) (now := truthsNow ps gs (st.failed ++ [x]) (takeU (st.failed ++ [x]) st.uses gs) (truthsIn ps gs fl us hd)) (before := st.now) (line := r) ok.pl.causes
          have := pigeon J.nd J.sub
          rw [List.length_map] at this
          omega
        refine ⟨l', jn, _, _, rfl, rfl, s8 _ _ (s67.list l5), hj, by rw [sizeLine_eq]; simp [sV]; omega, fun l2 nl2 => ?_⟩
        have s9 : Same H8 (upd H8 l2 (.lst (sV r ++ sV (joinM cs (truthsNow ps gs (st.failed ++ [x]) (takeU (st.failed ++ [x]) st.uses gs) (truthsIn ps gs fl us hd)) st.now r)))) := Same.new nl2
        have s89 := s8.trans s9
        have sm9 := sm7'.trans (Same.sm (T := T0) s89)
        have inv2 := I.inv.step (ea := truthsIn ps gs fl us hd) nms ok.sp ok.pl.causes
        have eStep := fstep_cons (ps := ps) (gs := gs) (cs := cs) (ea := truthsIn ps gs fl us hd) el
        refine ⟨⟨fstep ps gs cs (truthsIn ps gs fl us hd) st, u2, w2, l2, _, _, rfl, ?_⟩, ?_⟩
        · rw [eStep] at inv2 ⊢
          refine ⟨sm9, s89 _ _ (s67.dict e5), s89 _ _ (s67.list fa5), s89 _ _ (sm7.dict hu2), s89 _ _ hw2, s89 _ _ (s67.list fb5), by rw [upd_same]; simp [sV], I.n1, fun z => ?_, fun z => ?_, sm7'.nn _ (s8.free nl2), I.nfa, I.nfb, inv2, by simp; omega, ?_⟩
          · rw [z, s8 _ _ (s67.list fa5)] at nl2
            cases nl2
          · rw [z, s8 _ _ (s67.list fb5)] at nl2
            cases nl2
          · have hk : ps.length - st.failed.length = (ps.length - (st.failed ++ [x]).length) + 1 := by simp; omega
            have run := I.run
            rw [hk, fall_cons el, eStep] at run
            exact run
        · show (match (upd H8 l2 _) fa with | some (.lst ys) => ps.length - ys.length | _ => 0) < (match H2 fa with | some (.lst ys) => ps.length - ys.length | _ => 0)
          rw [s89 _ _ (s67.list fa5), I.hfa]
          simp [sV]
          omega
    · intro σ H2 Q1 Q2 hq h
      obtain ⟨v, hv, k, hk, hQ⟩ := h
      exact ⟨v, hv, k, hk, hq _ _ hQ⟩
end
end Kf

set_option Elab.async false
set_option linter.all false
set_option maxRecDepth 100000
set_option maxHeartbeats 2000000
namespace Kf
open PySem PySem.Spec PyProof.Rows L2 LamX NdefX TL
def mendFl (fl : List Str) (n : Str) : List Str := fl.filter fun x => !decide (x = n)
def mendUs (gs : List G) (fl : List Str) (us : Uses) (n : Str) : Uses := takeU (mendFl fl n) us gs
def mendTr (ps : List (Str × Str)) (gs : List G) (fl : List Str) (us : Uses) (hd : List Str) (n : Str) : Tr := truthsNow ps gs (mendFl fl n) (mendUs gs fl us n) (truthsIn ps gs fl us hd)
theorem decRef (x y : Str) : (!decide (V.str x = V.str y)) = !decide (x = y) := by rw [decStr]
section
variable {P : Program} {w : World} {K : PySem.W.Frag} {mg : Str → Option Value} {base : Heap}
def spAfterM (K : PySem.W.Frag) (C : Addr) (T0 : List NTab) : Sp := fun vs H Q _ => ∃ a v n ps gs cs tp fl us hd, vs = [.ref a, v, .str n] ∧ PlObj K C H a ps gs cs tp ∧ StAt K H v fl us hd ∧ RunOk ps gs cs tp us ∧ FailOk ps fl ∧ TabsN T0 H ∧
  ∀ H' v', Sm T0 H H' → StAt K H' v' (srtS (mendFl fl n)) (mendUs gs fl us n) (heldOf gs (mendTr ps gs fl us hd n)) → Q v' H'
theorem ok_after_mend {f C : Addr} {fd : FuncData} {T0 : List NTab} (F : L2.Fun K "after_mend" "after_mend" s_after_mend f fd) (T : Nm mg) (L : PlC K mg C) (R_gates : PropC P w K mg base C "gates" "_gates") (C_truths_in : Cal P w K mg base 5 "truths_in" ["plant", "state"] (spTruthsIn K C T0))
    (C_take : Cal P w K mg base 1 "take" ["gates", "uses", "failed"] (spTakeU K)) (C_truths_now : Cal P w K mg base 5 "truths_now" ["plant", "failed", "uses", "earlier"] (spTruthsNow K C T0)) (C_state_of : Cal P w K mg base 3 "state_of" ["plant", "failed", "uses", "truths"] (spStateOf K C)) :
    FnOk P w K mg base CX0 6 f fd ["plant", "state", "part"] (spAfterM K C T0) := by
  refine F.ok sc_after_mend (fun vs H Q E h => ?_) (fun cdv A outer s H vs Q E hr h => ?_)
  · obtain ⟨a, v, n, ps, gs, cs, tp, fl, us, hd, rfl, _⟩ := h
    rfl
  · obtain ⟨a, v, n, ps, gs, cs, tp, fl, us, hd, rfl, ho, hst, ok, fok, hT, q⟩ := h
    obtain ⟨dx, pa, ga, ca, xs, ys, zs, h0, h1, e1, h2, e2, h3, e3⟩ := ho.ex
    obtain ⟨sa, sb, sc, sd, ts, rfl, t1, t2, t3, t4, t5⟩ := hst.ex
    have hpl := ok.pl.parts.hi
    have hgl := ok.pl.gates.hi
    have hfl := fok.len
    have hu := hu_of hr
    refine ⟨_, (pss_cons (ps_setLc (i := 3) (own := [("name", 5)]) (g := gName 5) (by rfl) sc_after_mend.nd rfl rfl (sw_true rfl rfl rfl (by decide +kernel)) (pi_sq (pe_ix (ix_sqK (K := K) rfl) (pv 1) pe_int (fun _ _ => rfl))) (blkOk_by (own := [("name", 5)]) (N := ["plant", "state", "part", "failed", "uses", "name"]) (sc := defScope s_after_mend) (by decide +kernel)) (fun _ _ _ _ _ => pg_name (i := 5) sc_after_mend.nd rfl (.inl rfl)) (fun _ _ _ _ _ => pts_one (pt_cmpR op_ne (pv 5) (pv 2) (nomark _))) (fun _ _ _ _ _ => (pv 5)))
 (pss_cons (ps_set (i := 4) sc_after_mend.nd rfl (.inl rfl) (pe_cal C_take (by decide) hr (by rfl) (pa_cons (pe_propC R_gates L.cl (by decide) hr (pv 0) rfl) (pa_cons (pe_callTy (call_dictPT rfl) (by rfl) T.n_dict (by decide +kernel) (pa_cons (pe_ix (ix_sqK (K := K) rfl) (pv 1) pe_int (fun _ _ => rfl)) pa_nil)) (pa_cons (pv 3) pa_nil)))))
 (pss_one (ps_ret (pe_cal C_state_of (by decide) hr (by rfl) (pa_cons (pv 0) (pa_cons (pv 3) (pa_cons (pv 4) (pa_cons (pe_cal C_truths_now (by decide) hr (by rfl) (pa_cons (pv 0) (pa_cons (pv 3) (pa_cons (pv 4) (pa_cons (pe_cal C_truths_in (by decide) hr (by rfl) (pa_cons (pv 0) (pa_cons (pv 1) pa_nil))) pa_nil))))) pa_nil))))))))), ?_⟩
    refine ⟨.ref sa, rfl, sa, _, 0, .ref sb, rfl, rfl, .inr t1, rfl, sb, false, rfl, ⟨_, t2⟩, fun D nD => ?_⟩
    refine lc_it (walk_sq (xs := sV fl)) (LP H D fun j => sV (mendFl (fl.take j) n)) (LP.zero nD rfl) (fun _ _ _ p => Same.sqb (b := false) p.sm t2) (fun j x H2 H3 hj p y => ?_) (fun H2 p => ?_)
    · obtain ⟨rfl, hx⟩ := y
      obtain ⟨hj2, rfl⟩ := sV_get hx
      have suc : mendFl (fl.take (j + 1)) n = mendFl (fl.take j) n ++ (if (!decide (fl[j] = n)) = true then [fl[j]] else []) := by
        unfold mendFl
        rw [take_sV hj2, List.filter_append, filter_one]
      refine ⟨rfl, .str fl[j], rfl, .str n, rfl, rfl, !decide (fl[j] = n), by rw [decRef], ite2 (fun e => ?_) (fun e => ?_)⟩
      · refine ⟨.str fl[j], rfl, p.put nD (Same.refl _) (by rw [suc, if_pos e]; simp [sV]) ?_⟩
        have h1 : (mendFl (fl.take j) n).length ≤ (fl.take j).length := List.length_filter_le ..
        rw [sizeLine_eq]
        simp [sV] at h1 ⊢
        omega
      · exact p.skip (Same.refl _) (by rw [suc, if_neg e, List.append_nil])
    · have el : (sV fl).length = fl.length := List.length_map ..
      have hD : H2 D = some (.lst (sV (mendFl fl n))) := by rw [p.at_, el, List.take_length]
      have s2 := p.sm
      refine ⟨.ref a, rfl, a, dx, _, rfl, s2 _ _ h0, a, dx, _, _, rfl, s2 _ _ h0, plF_g, .ref sa, rfl, sa, _, 1, .ref sc, rfl, rfl, .inr (Same.sqt s2 t1), rfl, sc, ts, dS V.str us, rfl, t3.same s2, pairs_to (Paired.imp2 (fun _ _ r => Same.sqt s2 r) t4), fun ua nua => ?_⟩
      rw [merge_uses ok.nd]
      have s3 : Same H2 (upd H2 ua (.dK (dS V.str us))) := Same.new nua
      have s23 := s2.trans s3
      refine ⟨.ref D, rfl, ⟨ga, ua, D, ys, gs, us, mendFl fl n, rfl, .inr (Same.sqt s23 h2), e2.imp fun _ _ r => GateAt.kt (Same.kt s23) r, upd_same, .inl (.of (s3 _ _ hD)), ok.sp, by have := ok.ul; omega, ok.pool, fun H4 u2 s4 nu2 hu2 => ?_⟩⟩
      have s24 := s23.trans s4
      have ku : (takeU (mendFl fl n) us gs).map (·.1) = us.map (·.1) := takeU_keysOf rfl ok.sp
      have hD4 := s4 _ _ (s3 _ _ hD)
      refine ⟨.ref a, rfl, .ref D, rfl, .ref u2, rfl, .ref a, rfl, .ref D, rfl, .ref u2, rfl, .ref a, rfl, .ref sa, rfl, ⟨a, .ref sa, ps, gs, cs, tp, fl, us, hd, rfl, ho.sm (Same.sm (T := T0) s24), hst.same s24, ok.nd, ok.tell rfl, hT.ext s24, fun H5 ea sm5 nea hea => ?_⟩⟩
      have sm25 := (Same.sm (T := T0) s24).trans sm5
      refine ⟨a, D, u2, ea, ps, gs, cs, tp, mendFl fl n, takeU (mendFl fl n) us gs, truthsIn ps gs fl us hd, rfl, ho.sm sm25, .inl (.of (sm5.list hD4)), sm5.dict hu2, hea, keyAll_tell, ok.tell ku, sm25.tb hT, fun H6 w2 sm6 nw2 hw2 => ?_⟩
      have sm26 := sm25.trans sm6
      have s56 := sm5.trans sm6
      refine ⟨a, D, u2, w2, ps, gs, cs, tp, mendFl fl n, takeU (mendFl fl n) us gs, _, rfl, ho.sm sm26, .of (s56.list hD4), s56.dict hu2, hw2, keyAll_tell, by omega, fun H7 v' s7 hv' => ?_⟩
      exact q H7 v' (sm26.trans (Same.sm s7)) hv'
/-! ### one event -/
abbrev St3 := List Str × Uses × List Str
def nextOf (ps : List (Str × Str)) (gs : List G) (cs : List (Str × List Str)) (s : St3) (e : Str × Str) : St3 × List Str :=
  if e.1 = "mend" then ((srtS (mendFl s.1 e.2), mendUs gs s.1 s.2.1 e.2, heldOf gs (mendTr ps gs s.1 s.2.1 s.2.2 e.2)), [])
  else ((srtS (failEnd ps gs cs s.1 s.2.1 s.2.2 e.2).failed, (failEnd ps gs cs s.1 s.2.1 s.2.2 e.2).uses, heldOf gs (failEnd ps gs cs s.1 s.2.1 s.2.2 e.2).now), (failEnd ps gs cs s.1 s.2.1 s.2.2 e.2).fallen)
abbrev St3At (K : PySem.W.Frag) (H : Hp) (v : V) (s : St3) : Prop := StAt K H v s.1 s.2.1 s.2.2
theorem ne_fail_mend : ¬ ("fail" : Str) = "mend" := by decide +kernel
/-- an event that is possible -/
structure EvOk (ps : List (Str × Str)) (s : St3) (e : Str × Str) : Prop where
  ex : (e.1 = "mend" ∧ e.2 ∈ s.1) ∨ (e.1 = "fail" ∧ e.2 ∈ ps.map (·.1) ∧ ¬ e.2 ∈ s.1 ∧ ∃ k, (e.2, k) ∈ ps ∧ failable s.1 s.2.1 (e.2, k) = true)
theorem evOk_of {ps : List (Str × Str)} {s : St3} {e : Str × Str} (h : e ∈ eventsOf ps s.1 s.2.1) : EvOk ps s e := by
  rcases List.mem_append.mp h with h | h
  · obtain ⟨x, hx, rfl⟩ := List.mem_map.mp h
    exact ⟨.inl ⟨rfl, hx⟩⟩
  · obtain ⟨p, hp, rfl⟩ := List.mem_map.mp h
    obtain ⟨h1, h2⟩ := List.mem_filter.mp hp
    refine ⟨.inr ⟨rfl, List.mem_map.mpr ⟨p, h1, rfl⟩, ?_, p.2, h1, h2⟩⟩
    unfold failable at h2
    simp at h2
    exact h2.1
def spAfter (K : PySem.W.Frag) (C : Addr) (T0 : List NTab) : Sp := fun vs H Q _ => ∃ a v ev e ps gs cs tp s, vs = [.ref a, v, ev] ∧ PlObj K C H a ps gs cs tp ∧ St3At K H v s ∧ PartAt K H ev e ∧ RunOk ps gs cs tp s.2.1 ∧ FailOk ps s.1 ∧ EvOk ps s e ∧ TabsN T0 H ∧
  ∀ H' p v' t, Sm T0 H H' → SqT K H' p [v', .ref t] → St3At K H' v' (nextOf ps gs cs s e).1 → SqT K H' t (sV (nextOf ps gs cs s e).2) → Q (.ref p) H'
theorem ok_after {f C : Addr} {fd : FuncData} {T0 : List NTab} (F : L2.Fun K "after" "after" s_after f fd) (T : Nm mg) (C_after_mend : Cal P w K mg base 6 "after_mend" ["plant", "state", "part"] (spAfterM K C T0)) (C_after_failure : Cal P w K mg base 6 "after_failure" ["plant", "state", "part"] (spAfterF K C T0)) :
    FnOk P w K mg base CX0 7 f fd ["plant", "state", "event"] (spAfter K C T0) := by
  refine F.ok sc_after (fun vs H Q E h => ?_) (fun cdv A outer s H vs Q E hr h => ?_)
  · obtain ⟨a, v, ev, e, ps, gs, cs, tp, s, rfl, _⟩ := h
    rfl
  · obtain ⟨a, v, ev, e, ps, gs, cs, tp, s3, rfl, ho, hst, hev, ok, fok, eok, hT, q⟩ := h
    obtain ⟨t, rfl, ht⟩ := hev
    refine ⟨_, (pss_cons (ps_asg (pv 2) (pg_tupK (K := K) (n := 2) rfl rfl (pgs_cons (pg_name (i := 3) sc_after.nd rfl (.inl rfl)) (pgs_cons (pg_name (i := 4) sc_after.nd rfl (.inl rfl)) pgs_nil))))
 (pss_cons (ps_if (pt_cmpR op_eq (pv 3) pe_str (nomark _))
 (pss_one (ps_ret (pe_tup (pa_cons (pe_cal C_after_mend (by decide) hr (by rfl) (pa_cons (pv 0) (pa_cons (pv 1) (pa_cons (pv 4) pa_nil)))) (pa_cons (pe_tup pa_nil) pa_nil)))))
 pss_nil)
 (pss_one (ps_ret (pe_cal C_after_failure (by decide) hr (by rfl) (pa_cons (pv 0) (pa_cons (pv 1) (pa_cons (pv 4) pa_nil)))))))), ?_⟩
    refine ⟨.ref t, rfl, t, _, rfl, ht, rfl, .str e.1, _, rfl, .str e.2, [], rfl, rfl, ?_⟩
    refine ⟨.str e.1, rfl, rfl, _, rfl, ?_⟩
    obtain ⟨w0, n⟩ := e
    rcases eok.ex with ⟨e1, e2⟩ | ⟨e1, e2, e3, _⟩
    · obtain rfl : w0 = "mend" := e1
      refine iteD rfl ?_
      refine ⟨.ref a, rfl, v, rfl, .str n, rfl, ⟨a, v, n, ps, gs, cs, tp, s3.1, s3.2.1, s3.2.2, rfl, ho, hst, ok, fok, hT, fun H1 v' sm1 hv' => ?_⟩⟩
      refine ⟨Nat.zero_le _, fun z nz => ?_⟩
      refine ⟨by show 2 ≤ sizeLine; decide, fun p np => ?_⟩
      have s2 : Same H1 (upd H1 z (.tup [])) := Same.new nz
      have s3' : Same (upd H1 z (.tup [])) (upd (upd H1 z (.tup [])) p (.tup [v', .ref z])) := Same.new np
      have en : nextOf ps gs cs s3 ("mend", n) = ((srtS (mendFl s3.1 n), mendUs gs s3.1 s3.2.1 n, heldOf gs (mendTr ps gs s3.1 s3.2.1 s3.2.2 n)), []) := if_pos rfl
      rw [en] at q
      exact q _ p v' z (sm1.trans (Same.sm (s2.trans s3'))) (.of upd_same) (hv'.same (s2.trans s3')) (.of (s3' _ _ upd_same))
    · obtain rfl : w0 = "fail" := e1
      refine iteN (litNe ne_fail_mend) ?_
      have en : nextOf ps gs cs s3 ("fail", n) = ((srtS (failEnd ps gs cs s3.1 s3.2.1 s3.2.2 n).failed, (failEnd ps gs cs s3.1 s3.2.1 s3.2.2 n).uses, heldOf gs (failEnd ps gs cs s3.1 s3.2.1 s3.2.2 n).now), (failEnd ps gs cs s3.1 s3.2.1 s3.2.2 n).fallen) := if_neg ne_fail_mend
      rw [en] at q
      exact ⟨.ref a, rfl, v, rfl, .str n, rfl, ⟨a, v, n, ps, gs, cs, tp, s3.1, s3.2.1, s3.2.2, rfl, ho, hst, ok, fok, e2, e3, hT, q⟩⟩
end
end Kf

set_option Elab.async false
set_option linter.all false
set_option maxRecDepth 100000
set_option maxHeartbeats 2000000
namespace Kf
open PySem PySem.Spec PyProof.Rows L2 LamX NdefX TL
/-! ## the class Run -/
theorem r_ps : ¬ ("_plant" : Str) = "_state" := by decide +kernel
theorem r_pt : ¬ ("_plant" : Str) = "_stopped" := by decide +kernel
theorem r_st : ¬ ("_state" : Str) = "_stopped" := by decide +kernel
theorem r_pp : ¬ ("_parts" : Str) = "_plant" := by decide +kernel
def rnF (a v b : V) : List (Str × V) := [("_plant", a), ("_state", v), ("_stopped", b)]
theorem rnF_p {a v b : V} : (rnF a v b).lookup ("_plant" : Str) = some a := lk_eq
theorem rnF_s {a v b : V} : (rnF a v b).lookup ("_state" : Str) = some v := (lk_ne r_ps).trans lk_eq
theorem rnF_t {a v b : V} : (rnF a v b).lookup ("_stopped" : Str) = some b := (lk_ne r_pt).trans ((lk_ne r_st).trans lk_eq)
theorem rn1_no {a : V} {m : Str} (h : ¬ ("_plant" : Str) = m) : (putF "_plant" a []).lookup m = none := (lk_ne h).trans rfl
theorem rnF_no {a v b : V} {m : Str} (h1 : ¬ ("_plant" : Str) = m) (h2 : ¬ ("_state" : Str) = m) (h3 : ¬ ("_stopped" : Str) = m) : (rnF a v b).lookup m = none := (lk_ne h1).trans ((lk_ne h2).trans ((lk_ne h3).trans rfl))
theorem setA_nd {α : Type} {l : List (Str × α)} {n : Str} {x : α} (h : (l.map (·.1)).Nodup) : ((setA l n x).map (·.1)).Nodup := by
  by_cases e : (l.any fun p => decide (p.1 = n)) = true
  · rw [setA_keys e]
    exact h
  · have hn : n ∉ l.map (·.1) := fun hm => by
      obtain ⟨p, hp, e2⟩ := List.mem_map.mp hm
      exact e (List.any_eq_true.mpr ⟨p, hp, by simpa using e2⟩)
    rw [setA_fresh hn, List.map_append]
    exact List.nodup_append.mpr ⟨h, by simp, fun a ha b hb e2 => hn (by
      obtain rfl := List.mem_singleton.mp hb
      rw [← e2]
      exact ha)⟩
theorem fold_nd {α β : Type} {f : List (Str × α) → β → List (Str × α)} (hf : ∀ l b, (l.map (·.1)).Nodup → ((f l b).map (·.1)).Nodup) : ∀ (bs : List β) (l : List (Str × α)), (l.map (·.1)).Nodup → ((bs.foldl f l).map (·.1)).Nodup
  | [], l, h => h
  | b :: r, l, h => fold_nd hf r _ (hf l b h)
theorem tell_nd {bf : G → Tr → Bool} {fl : List Str} {us : Uses} {ps : List (Str × Str)} {gs : List G} : ((tellM bf fl us ps gs).map (·.1)).Nodup :=
  fold_nd (fun l g h => setA_nd h) gs _ (fold_nd (fun l p h => setA_nd h) ps [] List.nodup_nil)
/-- the fields of a run, once it has its plant -/
def RnFs (a : Addr) (fs : List (Str × V)) : Prop := fs = [(("_plant" : Str), V.ref a)] ∨ ∃ v b, fs = rnF (.ref a) v b
theorem RnFs.pl {a : Addr} {fs : List (Str × V)} (h : RnFs a fs) : fs.lookup ("_plant" : Str) = some (.ref a) := by
  rcases h with rfl | ⟨v, b, rfl⟩
  · exact lk_eq
  · exact rnF_p
theorem RnFs.put {a : Addr} {fs : List (Str × V)} {v b : V} (h : RnFs a fs) : putF "_stopped" b (putF "_state" v fs) = rnF (.ref a) v b := by
  rcases h with rfl | ⟨v0, b0, rfl⟩
  · rw [putF_ne r_ps, show putF "_state" v [] = [(("_state" : Str), v)] from rfl, putF_ne r_pt, putF_ne r_st]
    rfl
  · unfold rnF
    rw [putF_ne r_ps, show putF "_state" v [(("_state" : Str), v0), ("_stopped", b0)] = [(("_state" : Str), v), ("_stopped", b0)] from if_pos rfl, putF_ne r_pt, putF_ne r_st, show putF "_stopped" b [(("_stopped" : Str), b0)] = [(("_stopped" : Str), b)] from if_pos rfl]
theorem RnFs.len {a : Addr} {fs : List (Str × V)} (h : RnFs a fs) : fs.length < 999 := by
  rcases h with rfl | ⟨v, b, rfl⟩
  · show 1 < 999; decide
  · show 3 < 999; decide
theorem putF_len (f : Str) (v : V) : ∀ fs : List (Str × V), (putF f v fs).length ≤ fs.length + 1
  | [] => Nat.le_refl _
  | p :: r => by
    have := putF_len f v r
    unfold putF
    split
    · simp
    · simp; omega
theorem RnFs.pl2 {a : Addr} {fs : List (Str × V)} {v : V} (h : RnFs a fs) : (putF "_state" v fs).lookup ("_plant" : Str) = some (.ref a) := by
  rcases h with rfl | ⟨v0, b0, rfl⟩
  · rw [putF_ne r_ps]; exact lk_eq
  · unfold rnF; rw [putF_ne r_ps]; exact lk_eq
theorem RnFs.no {a : Addr} {fs : List (Str × V)} (h : RnFs a fs) {p g c t : V} : ¬ fs = plF p g c t := by
  rcases h with rfl | ⟨v, b, rfl⟩
  · intro e
    have := congrArg List.length e
    simp [plF] at this
  · intro e
    have := congrArg List.length e
    simp [plF, rnF] at this
structure RnC (K : PySem.W.Frag) (mg : Str → Option Value) (C : Addr) : Prop where
  cl : Cls K C
  nP : NoAttr K C "_plant"
  nS : NoAttr K C "_state"
  nT : NoAttr K C "_stopped"
  mgC : mg "Run" = some (.ref C)
section
variable {x C CR : Addr} {T : List NTab} {K : PySem.W.Frag} {H H' : Hp} {dx a : Addr} {fs : List (Str × V)} {ps : List (Str × Str)} {gs : List G} {cs : List (Str × List Str)} {tp : Str}
theorem PlObj.ne (h : PlObj K C H a ps gs cs tp) {b : Addr} (hx : H x = some (.ins CR dx fs)) (r : RnFs b fs) : a ≠ x := by
  obtain ⟨dx', pa, ga, ca, xs, ys, zs, h0, _⟩ := h.ex
  intro e
  subst e
  rw [h0] at hx
  cases hx
  exact r.no rfl
theorem PlObj.smx (h : PlObj K C H a ps gs cs tp) (s : SmX x T H H') (hx : H x = some (.ins CR dx fs)) (n : a ≠ x) : PlObj K C H' a ps gs cs tp := h.kt (s.kt hx) fun _ _ _ e => s.kp _ _ e (by intro _ z; cases z) n
theorem SmX.utup {ad : Addr} {ts : List Addr} (s : SmX x T H H') (hx : H x = some (.ins CR dx fs)) (h : UTup H ad ts) : UTup H' ad ts := by
  obtain ⟨o, e, d⟩ := h
  exact ⟨o, s.kp _ _ e (by intro _ z; cases z) (ne_of e hx (by intro z; cases z)), d⟩
theorem StAt.smx {v : V} {fl : List Str} {us : Uses} {hd : List Str} (s : SmX x T H H') (hx : H x = some (.ins CR dx fs)) (h : StAt K H v fl us hd) : StAt K H' v fl us hd := by
  obtain ⟨a, b, c, d, ts, e, h1, h2, h3, h4, h5⟩ := h.ex
  exact ⟨a, b, c, d, ts, e, s.sqt hx h1, s.sqt hx h2, s.utup hx h3, Paired.imp2 (fun _ _ r => s.sqt hx r) h4, s.sqt hx h5⟩
end
abbrev trIn (ps : List (Str × Str)) (gs : List G) (s : St3) : Tr := truthsIn ps gs s.1 s.2.1 s.2.2
section
variable {P : Program} {w : World} {K : PySem.W.Frag} {mg : Str → Option Value} {base : Heap}
def spEnter (K : PySem.W.Frag) (C CR : Addr) (T0 : List NTab) : Sp := fun vs H Q _ => ∃ x v dx fs a ps gs cs tp s, vs = [.ref x, v] ∧ H x = some (.ins CR dx fs) ∧ RnFs a fs ∧ PlObj K C H a ps gs cs tp ∧ St3At K H v s ∧ RunOk ps gs cs tp s.2.1 ∧ TabsN T0 H ∧
  ∀ H', SmX x T0 H H' → H' x = some (.ins CR dx (rnF (.ref a) v (.bl (lookT (trIn ps gs s) tp)))) → Q .non H'
theorem ok_enter {f C CR : Addr} {fd : FuncData} {T0 : List NTab} (F : L2.Fun K "_enter" "Run._enter" s_Run__enter f fd) (T : Nm mg) (L : PlC K mg C) (LR : RnC K mg CR) (R_top : PropC P w K mg base C "top" "_top") (C_truths_in : Cal P w K mg base 5 "truths_in" ["plant", "state"] (spTruthsIn K C T0)) :
    FnOk P w K mg base CX0 6 f fd ["self", "state"] (spEnter K C CR T0) := by
  refine F.ok sc_Run__enter (fun vs H Q E h => ?_) (fun cdv A outer s H vs Q E hr h => ?_)
  · obtain ⟨x, v, dx, fs, a, ps, gs, cs, tp, s, rfl, _⟩ := h
    rfl
  · obtain ⟨x, v, dx, fs, a, ps, gs, cs, tp, s3, rfl, hx, rf, ho, hst, ok, hT, q⟩ := h
    have hu := hu_of hr
    refine ⟨_, (pss_cons (ps_fld (pv 0) (pv 1) rfl)
 (pss_one (ps_fld (pv 0) (pe_dget hu (pe_cal C_truths_in (by decide) hr (by rfl) (pa_cons (pe_fld (pv 0) rfl) (pa_cons (pv 1) pa_nil))) (pe_propC R_top L.cl (by decide) hr (pe_fld (pv 0) rfl) rfl) (fun _ _ => rfl)) rfl))), ?_⟩
    refine ⟨v, rfl, .ref x, rfl, x, CR, dx, fs, rfl, hx, LR.cl, LR.nS, by have := rf.len; omega, ?_⟩
    have x1 : SmX x T0 H (upd H x (.ins CR dx (putF "_state" v fs))) := SmX.at hx (by intro _ z; cases z) (by intro _ z; cases z)
    have ne := ho.ne hx rf
    have ho1 := ho.smx x1 hx ne
    have T1 := tabs_upd (o' := .ins CR dx (putF "_state" v fs)) hx (by intro _ z; cases z) (by intro _ z; cases z) hT
    refine ⟨.ref x, rfl, x, CR, dx, _, .ref a, rfl, upd_same, LR.cl, LR.nP, rf.pl2, v, rfl, ⟨a, v, ps, gs, cs, tp, s3.1, s3.2.1, s3.2.2, rfl, ho1, StAt.smx x1 hx hst, ok.nd, ok.tell rfl, T1, fun H2 tr sm2 ntr htr => ?_⟩⟩
    have hx2 := sm2.lst (upd_same (H := H) (a := x) (o := .ins CR dx (putF "_state" v fs))) (by intro _ z; cases z)
    have ho2 := ho1.sm sm2
    obtain ⟨dxp, pa, ga, ca, xs, ys, zs, h0, _⟩ := ho2.ex
    have kt : KeyIn (truthsIn ps gs s3.1 s3.2.1 s3.2.2) tp := keyAll_tell _ (List.mem_append.mpr (.inr ok.pl.top.mem))
    refine ⟨.ref x, rfl, x, CR, dx, _, .ref a, rfl, hx2, LR.cl, LR.nP, rf.pl2, a, dxp, _, rfl, h0, a, dxp, _, _, rfl, h0, plF_t, tr, _, rfl, kt.look htr, .ref x, rfl, x, CR, dx, _, rfl, hx2, LR.cl, LR.nT, ?_, ?_⟩
    · have h1 := rf.len
      have h2 := putF_len "_state" v fs
      omega
    · have x3 : SmX x T0 H2 (upd H2 x (.ins CR dx (putF "_stopped" (.bl (lookT (truthsIn ps gs s3.1 s3.2.1 s3.2.2) tp)) (putF "_state" v fs)))) := SmX.at hx2 (by intro _ z; cases z) (by intro _ z; cases z)
      exact q _ ((x1.trans sm2.x).trans x3) (by rw [upd_same, rf.put])
/-- a run in a state -/
structure RnObj (K : PySem.W.Frag) (C CR : Addr) (H : Hp) (x : Addr) (ps : List (Str × Str)) (gs : List G) (cs : List (Str × List Str)) (tp : Str) (s : St3) : Prop where
  ex : ∃ dx a v, H x = some (.ins CR dx (rnF (.ref a) v (.bl (lookT (trIn ps gs s) tp)))) ∧ PlObj K C H a ps gs cs tp ∧ St3At K H v s
theorem RnObj.sm {T : List NTab} {C CR x : Addr} {H H' : Hp} {ps : List (Str × Str)} {gs : List G} {cs : List (Str × List Str)} {tp : Str} {s : St3} (h : RnObj K C CR H x ps gs cs tp s) (m : Sm T H H') : RnObj K C CR H' x ps gs cs tp s := by
  obtain ⟨dx, a, v, h0, h1, h2⟩ := h.ex
  exact ⟨dx, a, v, m.lst h0 (by intro _ z; cases z), h1.sm m, StAt.sm m h2⟩
def st0 (gs : List G) : St3 := ([], firstU gs, [])
theorem firstU_keys (gs : List G) : (firstU gs).map (·.1) = (initU gs).map (·.1) := takeU_keys (initU_spare gs)
theorem first_run {ps : List (Str × Str)} {gs : List G} {cs : List (Str × List Str)} {tp : Str} (h : PlantOk ps gs cs tp) : RunOk ps gs cs tp (firstU gs) := by
  have gp : GP (ps.map (·.1)) gs := h.gates.each
  have nd := (nmsOk_of gp).gn
  have e := firstU_keys gs
  have ei : initU gs = [] ++ (spares gs).map fun n => (n, emptyS) := init_core gs [] (by show (([] : Uses).map (·.1) ++ spares gs).Nodup; simpa using List.Sublist.nodup (spares_sub gs) nd)
  refine ⟨h, firstU_spare gs, ?_, ?_⟩
  · unfold KeysNd
    rw [e, ei, List.nil_append, List.map_map]
    have : ((spares gs).map ((fun x : Str × Str => x.1) ∘ fun n => (n, emptyS))) = spares gs := by
      rw [show ((fun x : Str × Str => x.1) ∘ fun n => (n, emptyS)) = id from rfl]
      exact List.map_id _
    rw [this]
    exact List.Sublist.nodup (spares_sub gs) nd
  · have h1 := congrArg List.length e
    rw [List.length_map, List.length_map] at h1
    have h2 := initU_le gs
    have h3 := h.gates.hi
    omega
def spRunInit (K : PySem.W.Frag) (C CR : Addr) (T0 : List NTab) : Sp := fun vs H Q _ => ∃ x dx a ps gs cs tp, vs = [.ref x, .ref a] ∧ H x = some (.ins CR dx []) ∧ PlObj K C H a ps gs cs tp ∧ PlantOk ps gs cs tp ∧ TabsN T0 H ∧
  ∀ H', SmX x T0 H H' → RnObj K C CR H' x ps gs cs tp (st0 gs) → Q .non H'
theorem ok_run_init {f C CR : Addr} {fd : FuncData} {T0 : List NTab} (F : L2.Fun K "__init__" "Run.__init__" s_Run___init__ f fd) (T : Nm mg) (LR : RnC K mg CR) (C_beginning : Cal P w K mg base 3 "beginning" ["plant"] (spBeginning K C)) (M_enter : C8.Met P w K mg base 6 CR "_enter" (spEnter K C CR T0) []) :
    FnOk P w K mg base CX0 7 f fd ["self", "plant"] (spRunInit K C CR T0) := by
  refine F.ok sc_Run___init__ (fun vs H Q E h => ?_) (fun cdv A outer s H vs Q E hr h => ?_)
  · obtain ⟨x, dx, a, ps, gs, cs, tp, rfl, _⟩ := h
    rfl
  · obtain ⟨x, dx, a, ps, gs, cs, tp, rfl, hx, ho, ok, hT, q⟩ := h
    refine ⟨_, pss_cons (ps_fld (pv 0) (pv 1) rfl) (pss_one (ps_expr (C8.pe_mt M_enter hr (by decide) (pv 0) (pa_cons (pe_cal C_beginning (by decide) hr (by rfl) (pa_cons (pv 1) pa_nil)) pa_nil)))), ?_⟩
    have ne : a ≠ x := by
      obtain ⟨dx', pa, ga, ca, xs, ys, zs, h0, _⟩ := ho.ex
      intro e
      subst e
      rw [h0] at hx
      injection hx with e1
      injection e1 with _ _ e2
      have := congrArg List.length e2
      simp [plF] at this
    refine ⟨.ref a, rfl, .ref x, rfl, x, CR, dx, [], rfl, hx, LR.cl, LR.nP, by show 0 < 1000; decide, ?_⟩
    have x1 : SmX x T0 H (upd H x (.ins CR dx [(("_plant" : Str), V.ref a)])) := SmX.at hx (by intro _ z; cases z) (by intro _ z; cases z)
    have ho1 := ho.smx x1 hx ne
    have T1 := tabs_upd (o' := .ins CR dx [(("_plant" : Str), V.ref a)]) hx (by intro _ z; cases z) (by intro _ z; cases z) hT
    have gp : GP (ps.map (·.1)) gs := ok.gates.each
    refine ⟨.ref x, rfl, x, dx, _, rfl, upd_same, rn1_no (by decide +kernel), .ref a, rfl, ⟨a, ps, gs, cs, tp, rfl, ho1, by have := ok.gates.hi; omega, fun n qs hm => ?_, fun H2 v s2 hv => ?_⟩⟩
    · have h1 := gp.pool n qs hm
      have h2 := ok.parts.hi
      rw [List.length_map] at h1
      omega
    · have hx2 := s2 _ _ (upd_same (H := H) (a := x) (o := .ins CR dx [(("_plant" : Str), V.ref a)]))
      have ho2 := ho1.sm (Same.sm (T := T0) s2)
      refine ⟨x, v, dx, _, a, ps, gs, cs, tp, st0 gs, rfl, hx2, .inl rfl, ho2, hv, first_run ok, T1.ext s2, fun H3 x3 hx3 => ?_⟩
      exact q H3 ((x1.trans (Same.sm s2).x).trans x3) ⟨dx, a, v, hx3, ho2.smx x3 hx2 ne, StAt.smx x3 hx2 hv⟩
/-! ### what a run tells -/
def spTruths (K : PySem.W.Frag) (C CR : Addr) (T0 : List NTab) : Sp := fun vs H Q _ => ∃ x ps gs cs tp s, vs = [.ref x] ∧ RnObj K C CR H x ps gs cs tp s ∧ RunOk ps gs cs tp s.2.1 ∧ TabsN T0 H ∧
  ∀ H' p ys, Sm T0 H H' → H p = none → ys.Perm ((trIn ps gs s).map (·.1)) → sortedS ys = true → H' p = some (.dK (dS V.bl (ys.map fun n => (n, lookT (trIn ps gs s) n)))) → Q (.ref p) H'
theorem fold_map {ys : List Str} {f : Str → Bool} : ∀ (l acc : List Str), (acc ++ l).Nodup → l.foldl (fun d n => setA d n (f n)) (acc.map fun n => (n, f n)) = (acc ++ l).map fun n => (n, f n)
  | [], acc, _ => by rw [List.append_nil]; rfl
  | n :: r, acc, h => by
    have h1 : n ∉ (acc.map fun n => (n, f n)).map (·.1) := by
      intro hm
      rw [List.map_map] at hm
      obtain ⟨z, hz, e⟩ := List.mem_map.mp hm
      obtain rfl : z = n := e
      exact (List.nodup_append.mp h).2.2 z hz z (List.mem_cons_self ..) rfl
    rw [List.foldl_cons, setA_fresh h1]
    have := fold_map (ys := ys) (f := f) r (acc ++ [n]) (by rw [List.append_assoc]; exact h)
    rw [List.map_append] at this
    rw [show (acc.map (fun n => (n, f n)) ++ [(n, f n)]) = acc.map (fun n => (n, f n)) ++ [n].map (fun n => (n, f n)) from rfl, this, List.append_assoc]
    rfl
theorem ok_truths {f C CR : Addr} {fd : FuncData} {T0 : List NTab} (F : L2.Fun K "truths" "Run.truths" s_Run_truths f fd) (T : Nm mg) (LR : RnC K mg CR) (C_truths_in : Cal P w K mg base 5 "truths_in" ["plant", "state"] (spTruthsIn K C T0)) :
    FnOk P w K mg base CX0 6 f fd ["self"] (spTruths K C CR T0) := by
  refine F.ok sc_Run_truths (fun vs H Q E h => ?_) (fun cdv A outer s H vs Q E hr h => ?_)
  · obtain ⟨x, ps, gs, cs, tp, s, rfl, _⟩ := h
    rfl
  · obtain ⟨x, ps, gs, cs, tp, s3, rfl, hR, ok, hT, q⟩ := h
    obtain ⟨dx, a, v, hx, ho, hst⟩ := hR.ex
    have hu := hu_of hr
    refine ⟨_, (pss_cons (ps_set (i := 1) sc_Run_truths.nd rfl (.inr rfl) (pe_cal C_truths_in (by decide) hr (by rfl) (pa_cons (pe_fld (pv 0) rfl) (pa_cons (pe_fld (pv 0) rfl) pa_nil))))
 (pss_one (ps_ret (pe_dc (own := [("name", 2)]) (g := gName 2) (by rfl) sc_Run_truths.nd (pi_list (pe_callB (call_sortedD rfl) (by rfl) T.n_sorted (by decide +kernel) (pa_cons (pv 1) pa_nil))) (blkOk_by (own := [("name", 2)]) (N := ["self", "told", "name"]) (sc := defScope s_Run_truths) (by decide +kernel)) (fun _ _ _ _ _ => pg_name (i := 2) sc_Run_truths.nd rfl (.inl rfl)) (fun _ _ _ _ _ => pts_nil) (fun _ _ _ _ _ => (pv 2)) (fun _ _ _ _ _ => (pe_dget hu (pv 1) (pv 2) (fun _ _ => rfl))))))), ?_⟩
    refine ⟨.ref x, rfl, x, CR, dx, _, .ref a, rfl, hx, LR.cl, LR.nP, rnF_p, .ref x, rfl, x, CR, dx, _, v, rfl, hx, LR.cl, LR.nS, rnF_s, ⟨a, v, ps, gs, cs, tp, s3.1, s3.2.1, s3.2.2, rfl, ho, hst, ok.nd, ok.tell rfl, hT, fun H1 tr sm1 ntr htr => ?_⟩⟩
    have hlen : (trIn ps gs s3).length ≤ 16 := by
      have h1 := tellM_le (bf := bfHeld s3.2.2) (fl := s3.1) (us := s3.2.1) (ps := ps) (gs := gs)
      have h2 := ok.pl.parts.hi
      have h3 := ok.pl.gates.hi
      show (tellM (bfHeld s3.2.2) s3.1 s3.2.1 ps gs).length ≤ 16
      omega
    refine ⟨.ref tr, rfl, tr, _, (trIn ps gs s3).map (·.1), rfl, .inl htr, by simp [dS], by rw [List.length_map]; omega, fun ys l hp hs nl => ?_⟩
    have hyl : ys.length ≤ 16 := by rw [hp.length_eq, List.length_map]; exact hlen
    have ynd : ys.Nodup := hp.nodup_iff.mpr tell_nd
    have s2 : Same H1 (upd H1 l (.lst (ys.map V.str))) := Same.new nl
    have yk : ∀ n ∈ ys, KeyIn (trIn ps gs s3) n := fun n hn => by
      obtain ⟨p, hp1, rfl⟩ := List.mem_map.mp (hp.mem_iff.mp hn)
      exact List.any_eq_true.mpr ⟨p, hp1, decide_eq_true rfl⟩
    refine ⟨l, rfl, ⟨_, .of upd_same⟩, fun D nD => ?_⟩
    refine dc_it (walk_list (xs := sV ys)) (DP _ D fun i => dS V.bl ((ys.take i).map fun n => (n, lookT (trIn ps gs s3) n))) (DP.zero nD rfl) (fun _ _ _ p => p.sm.seq (.of upd_same)) (fun i y H2 H3 hi p yy => ?_) (fun H2 p => ?_)
    · obtain ⟨rfl, hy⟩ := yy
      obtain ⟨hi2, rfl⟩ := sV_get hy
      have kk := yk ys[i] (List.getElem_mem hi2)
      refine ⟨rfl, .str ys[i], rfl, .ref tr, rfl, .str ys[i], rfl, tr, _, rfl, kk.look (p.sm _ _ (s2 _ _ htr)), ?_⟩
      refine p.put nD (k := .inr ys[i]) rfl (Same.refl _) ?_ ?_
      · rw [putK_dS V.bl]
        have nn : ys[i] ∉ ((ys.take i).map fun n => (n, lookT (trIn ps gs s3) n)).map (·.1) := by
          intro hm
          rw [List.map_map] at hm
          obtain ⟨z, hz, e⟩ := List.mem_map.mp hm
          obtain rfl : z = ys[i] := e
          obtain ⟨j, hj, ej⟩ := List.mem_iff_getElem.mp hz
          rw [List.getElem_take] at ej
          rw [List.length_take] at hj
          exact (List.pairwise_iff_getElem.mp ynd) j i (by omega) hi2 (by omega) ej
        rw [setA_fresh nn]
        show dS V.bl ((ys.take (i + 1)).map _) = _
        rw [take_sV hi2, List.map_append]
        rfl
      · rw [dS_len, sizeLine_eq]
        simp
        omega
    · have el : (sV ys).length = ys.length := List.length_map ..
      have hD : H2 D = some (.dK (dS V.bl (ys.map fun n => (n, lookT (trIn ps gs s3) n)))) := by rw [p.at_, el, List.take_length]
      exact q H2 D ys (sm1.trans (Same.sm (s2.trans p.sm))) (sm1.nn _ (s2.free nD)) hp hs hD
def spPossible (K : PySem.W.Frag) (C CR : Addr) : Sp := fun vs H Q _ => ∃ x ps gs cs tp s, vs = [.ref x] ∧ RnObj K C CR H x ps gs cs tp s ∧ RunOk ps gs cs tp s.2.1 ∧ FailOk ps s.1 ∧
  ∀ H' p xs, Same H H' → H p = none → H' p = some (.lst xs) → Paired (PartAt K H') xs (eventsIn ps s.1 s.2.1) → Q (.ref p) H'
theorem ok_possible {f C CR : Addr} {fd : FuncData} (F : L2.Fun K "possible" "Run.possible" s_Run_possible f fd) (T : Nm mg) (LR : RnC K mg CR) (C_events_in : Cal P w K mg base 3 "events_in" ["plant", "state"] (spEventsIn K C)) :
    FnOk P w K mg base CX0 4 f fd ["self"] (spPossible K C CR) := by
  refine F.ok sc_Run_possible (fun vs H Q E h => ?_) (fun cdv A outer s H vs Q E hr h => ?_)
  · obtain ⟨x, ps, gs, cs, tp, s, rfl, _⟩ := h
    rfl
  · obtain ⟨x, ps, gs, cs, tp, s3, rfl, hR, ok, fok, q⟩ := h
    obtain ⟨dx, a, v, hx, ho, hst⟩ := hR.ex
    refine ⟨_, (pss_one (ps_ret (pe_cal C_events_in (by decide) hr (by rfl) (pa_cons (pe_fld (pv 0) rfl) (pa_cons (pe_fld (pv 0) rfl) pa_nil))))), ?_⟩
    exact ⟨.ref x, rfl, x, CR, dx, _, .ref a, rfl, hx, LR.cl, LR.nP, rnF_p, .ref x, rfl, x, CR, dx, _, v, rfl, hx, LR.cl, LR.nS, rnF_s, ⟨a, v, ps, gs, cs, tp, s3.1, s3.2.1, s3.2.2, rfl, ho, hst, by have := ok.pl.parts.hi; omega, by have := fok.len; have := ok.pl.parts.hi; omega, by have := ok.ul; omega, q⟩⟩
end
end Kf

set_option Elab.async false
set_option linter.all false
set_option maxRecDepth 100000
set_option maxHeartbeats 2000000
/-! ## enumerate of a tuple -/
namespace PySem
open Sem (wp)
open AutoSeq1 (wpAny_loadPart')
theorem Kf.meets_enumT (l : Addr) (items : Array Value) (n : Nat) (dct : Option Addr) (sl : Array (Option Value)) :
    Meets (Builtin.«enumerate.__new__» ⟨[.type "enumerate", .ref l], []⟩) (fun _ R s => s.heap.get? l = some { cls := .type "tuple", dict := dct, data := .seq items n, slots := sl } ∧
      R (.ok (.ret (.ref (s.heap.push { cls := .type "tuple_iterator", data := .fields #[.ref l, .int 0 0] }).objs.size)))
        { s with heap := (s.heap.push { cls := .type "tuple_iterator", data := .fields #[.ref l, .int 0 0] }).push { cls := .type "enumerate", data := .fields #[.none, .bool false, .ref s.heap.objs.size, rawInt 0, .none, .none] } }) :=
  .of_wp fun prog w A R s h => by
    obtain ⟨hp, g, d, tk, os⟩ := s; obtain ⟨hl, h⟩ := h
    have hsub := sub_enumerate
    have hL : Heap.IsTuple (Shared.heap ⟨hp, g, d, tk, os⟩) l items := ⟨_, hl, rfl, n, rfl⟩
    wp_walk using wpAny_loadPart' hl
    refine wpAny_stack_any fun st => wpAny_pure ?_
    split
    · rename_i c _ _ _ _ _
      cases (c == Value.type "enumerate")
      · wp_walk using wpAny_loadPart' hl, wpAny_pyIter_tuple hL
        exact ⟨_, rfl, h⟩
      · wp_walk using wpAny_loadPart' hl, wpAny_pyIter_tuple hL
        exact ⟨_, rfl, h⟩
    · wp_walk using wpAny_loadPart' hl, wpAny_pyIter_tuple hL
      exact ⟨_, rfl, h⟩
section
variable {prog : Program} {w : World} {A : Around} {E : Value → Shared → Prop} {s : Shared}
theorem Kf.call_enumT {l : Addr} {items : Array Value} {Q : Value → Shared → Prop} (hL : s.heap.IsTuple l items)
    (h : ∀ h', IsEnum h' (s.heap.objs.size + 1) s.heap.objs.size 0 .none → h'.IsTupleIter s.heap.objs.size l 0 → h'.objs.size = s.heap.objs.size + 2 →
      (∀ b o, s.heap.get? b = some o → h'.get? b = some o) → Q (.ref (s.heap.objs.size + 1)) { s with heap := h' }) :
    wpAny (model prog w) A (call (.type "enumerate") [.ref l]) Q E s := by
  obtain ⟨⟨c, dct, dt, sl⟩, hl, hc, n, hd⟩ := hL
  replace hc : c = .type "tuple" := hc
  replace hd : dt = .seq items n := hd
  subst hc hd
  refine callType_new F.called_enumerate (by decide) (F.typeCall_enumerate_1 _) (F.newCall_enumerate_1 _) (fun obj => F.args_object_init_2 obj _) F.entry_enumerate_new
    (Kf.meets_enumT l items n dct sl) ⟨hl, ?_⟩
  have hz : (s.heap.push { cls := .type "tuple_iterator", data := .fields #[.ref l, .int 0 0] }).objs.size = s.heap.objs.size + 1 := Heap.size_push ..
  show _ ∧ _
  rw [hz]
  have he : IsEnum ((s.heap.push { cls := .type "tuple_iterator", data := .fields #[.ref l, .int 0 0] }).push
      { cls := .type "enumerate", data := .fields #[.none, .bool false, .ref s.heap.objs.size, rawInt 0, .none, .none] }) (s.heap.objs.size + 1) s.heap.objs.size 0 .none := by
    have := Heap.get?_push_size (s.heap.push { cls := .type "tuple_iterator", data := .fields #[.ref l, .int 0 0] })
      (o := { cls := .type "enumerate", data := .fields #[.none, .bool false, .ref s.heap.objs.size, rawInt 0, .none, .none] }) rfl
    rw [hz] at this; exact this
  refine ⟨⟨_, he, rfl⟩, h _ he ⟨_, Heap.get?_push_of_some _ (Heap.get?_push_size _ rfl), rfl, rfl⟩ (by rw [Heap.size_push, hz]) fun b o x => Heap.get?_push_of_some _ (Heap.get?_push_of_some _ x)⟩
theorem Kf.next_enumT_end {e it l : Addr} {i : Nat} {items : Array Value} {old : Value} {Q : Option Value → Shared → Prop} (hh : A.handled = none)
    (he : IsEnum s.heap e it i old) (hit : s.heap.IsTupleIter it l i) (hl : s.heap.IsTuple l items) (hx : items[i]? = none)
    (hQ : ∀ h', Heap.ExtBut it s.heap h' → Q none { s with heap := h' }) : wpAny (model prog w) A (pyNext (.ref e)) Q E s := by
  have hT : s.TypeIs (.ref e) "enumerate" := ⟨_, he, rfl⟩
  unfold pyNext
  refine wpAny_bind (wpAny_attempt (wpAny_callSpecial?_slot (name := Str.ofString "__next__") hT F.slot_enumerate_next
    (wpAny_call_entry F.slot_enumerate_next hT F.entry_enumerate_next ?_ (F.args_enumerate_next_1 _))))
  show wpAny _ _ (field (.ref e) 2 >>= _) _ _ _
  refine wpAny_bind (wpAny_field he rfl (x := .ref it) rfl ?_)
  refine wpAny_bind (RZ.nextOf_tuple_end hh hit hl hx fun h' x he' hx' => ?_)
  obtain ⟨o, ho, hc⟩ := hx'
  refine wpAny_bind (wpAny_isInstance (T := "StopIteration") (b := true) ⟨o, ho, hc⟩ isSubtype_stop ?_)
  exact wpAny_pure (hQ _ he')
end
end PySem
namespace Kf
open PySem PySem.Spec PyProof.Rows L2
def IteT (K : PySem.W.Frag) (a : Addr) : It :=
  ⟨fun i H => ∃ (xs : List V) (x : V), SqT K H a xs ∧ xs[i]? = some x, fun i H v H' => ∃ T x, v = .ref T ∧ H T = none ∧ H' = upd H T (.tup [.int (i : Nat), x]) ∧ ∀ xs, SqT K H a xs → xs[i]? = some x, fun i H => ∃ xs : List V, SqT K H a xs ∧ xs.length ≤ i⟩
theorem turn_enumT {P : Program} {w : World} {K : PySem.W.Frag} {elts : List Expr} {kk : Nat} {tpos : Pos} (a e it : Addr) :
    Turn P w K (.Tuple elts kk tpos) (IteT K a) [e, it] e (fun i h => (∃ old, IsEnum h e it ((i : Nat) : Int) old) ∧ h.IsTupleIter it a i ∧ e ≠ it) where
  mem := by simp
  obj := fun i h st b hb => by
    obtain ⟨⟨old, he⟩, ⟨o, ho, hc, hd⟩, _⟩ := st
    have e' : b = e ∨ b = it := by simpa using hb
    rcases e' with z | z
    · rw [z]; exact ⟨_, he, fun v q => nomatch q⟩
    · rw [z]; exact ⟨o, ho, fun v q => by rw [hd] at q; cases q⟩
  keep := fun i h h' st k => let ⟨⟨old, he⟩, hi, hne⟩ := st; ⟨⟨old, k e (by simp) _ he⟩, hi.at fun o q => k it (by simp) o q, hne⟩
  item := by
    intro X hP hw hK hc i pins s σ H E I hf st hg
    subst hP hw hK
    obtain ⟨⟨old, he⟩, hit, hne⟩ := st
    obtain ⟨xs, x, hq, hx⟩ := hg
    obtain ⟨its, rv, p, hz⟩ := I.tuple hq
    obtain ⟨u, hu, ru⟩ := rv.get hx
    have ht : s.heap.IsTuple a its.toArray := p
    have hel : e < s.heap.objs.size := Heap.lt_size he
    have hil : it < s.heap.objs.size := by obtain ⟨_, q, _⟩ := hit; exact Heap.lt_size q
    have nat : a ≠ it := by
      rintro rfl
      obtain ⟨o, ho, c1, _⟩ := ht
      obtain ⟨o2, ho2, c2, _⟩ := hit
      rw [ho] at ho2
      cases ho2
      rw [c1] at c2
      exact absurd (Value.type.inj c2) (by decide)
    have nae : e ≠ a := by
      rintro rfl
      obtain ⟨o, ho, c1, _⟩ := ht
      rw [he] at ho
      cases ho
      exact absurd (Value.type.inj c1) (by decide)
    have hh : X.A.in1.handled = none := I.ok.hd hc
    have hlt : i < its.toArray.size := by
      rcases Nat.lt_or_ge i its.length with h | h
      · simpa using h
      · rw [List.getElem?_eq_none h] at hu; cases hu
    refine wpAny_pyNext_enum_itemD (Draws.tuple hh it a nat its.toArray) he ⟨hit, ht⟩ hlt hne (by simp [hne, nae]) fun x2 h' tk hP ho st' hT hsz hk => ?_
    obtain rfl : u = x2 := by
      have : its.toArray[i]? = some x2 := hP
      rw [List.getElem?_toArray, hu] at this
      exact Option.some.inj this
    obtain ⟨hit', _⟩ := st'
    refine ⟨_, rfl, wpAny_letOwnedTupleGo_enum (s := { s with heap := h', toks := tk + 1 }) ho fun h'' he' sb => ?_⟩
    have hT2 : h''.get? s.heap.objs.size = some { cls := .type "tuple", data := .seq #[.int i tk, u] } := (sb.2 _ (Nat.ne_of_gt hel)).trans hT
    have new : ObjOk X.prog X.w (upd H s.heap.objs.size (.tup [.int (i : Nat), x])) h'' s.heap.objs.size (.tup [.int (i : Nat), x]) :=
      ⟨by show 2 ≤ sizeLine; decide, [.int i tk, u], .cons ⟨_, rfl⟩ (.cons ru .nil), ⟨_, hT2, rfl, _, rfl⟩⟩
    have I1 : Inv X pins σ (upd H s.heap.objs.size (.tup [.int (i : Nat), x])) { s with heap := h'', toks := tk + 1 } :=
      I.turnedNew (ch := [e, it]) (fun b ob hb q => (sb.2 b (fun z => hb (by simp [z]))).trans (hk b ob (fun z => hb (by simp [z])) (fun z => hb (by simp [z])) q)) hf (Nat.le_refl _) new
    refine ⟨.ref s.heap.objs.size, _, I1, rfl, ⟨_, x, rfl, I.hok.fresh (Nat.le_refl _), rfl, fun ys hy => by rw [I.tuple_inj hy hq]; exact hx⟩, ⟨⟨u, ?_⟩, hit'.at fun o q => (sb.2 it (Ne.symm hne)).trans q, hne⟩, fun b hb => ?_⟩
    · have e1 : ((i + 1 : Nat) : Int) = (i : Int) + 1 := by omega
      rw [e1]; exact he'
    · have hb' : b < s.heap.objs.size := by
        have e' : b = e ∨ b = it := by simpa using hb
        rcases e' with z | z
        · rw [z]; exact hel
        · rw [z]; exact hil
      rw [upd_ne (Nat.ne_of_lt hb')]
      exact (hf b hb).1
  done := by
    intro X hP hw hK hc i pins s σ H E I hf st hg
    subst hP hw hK
    obtain ⟨⟨old, he⟩, hit, hne⟩ := st
    obtain ⟨xs, hq, hx⟩ := hg
    obtain ⟨its, rv, p, hz⟩ := I.tuple hq
    obtain ⟨f0, f1, f2, f3, f4, f5⟩ := hf it (by simp)
    have hl := rv.length
    exact Kf.next_enumT_end (I.ok.hd hc) he hit (show s.heap.IsTuple a its.toArray from p) (by simp; omega) fun h' eb => ⟨rfl, I.turned (t' := s.toks) (fun b o hb q => eb b o hb q) f0 f1 f3 f4 f5⟩
  self := fun A i s Q E st h => let ⟨⟨_, he⟩, _⟩ := st; wpAny_pyIter_enum he h
theorem walk_enumT {K : PySem.W.Frag} {a : Addr} {xs : List V} : Walk (IteT K a) xs.length (fun H => SqT K H a xs) (YPair (fun i => some (.int (i : Nat))) (fun i => xs[i]?)) := by
  refine ⟨fun i _ hi q => ⟨xs, xs[i], q, by simp [hi]⟩, fun _ q => ⟨xs, q, Nat.le_refl _⟩, fun i H v H' _ q y => ?_⟩
  obtain ⟨T, x, h1, h2, h3, h4⟩ := y
  exact ⟨T, .int (i : Nat), x, h1, h2, h3, rfl, h4 xs q⟩
/-! enumerate of a list or a tuple -/
def IteB (b : Bool) (K : PySem.W.Frag) (a : Addr) : It := if b = true then Ite K a else IteT K a
theorem walk_enumQ {b : Bool} {K : PySem.W.Frag} {a : Addr} {xs : List V} : Walk (IteB b K a) xs.length (fun H => Sqb b K H a xs) (YPair (fun i => some (.int (i : Nat))) (fun i => xs[i]?)) := by
  cases b with
  | true => exact walk_enum
  | false => exact walk_enumT
def iEnumQ (K : PySem.W.Frag) (ta : TA) : TI := fun σ H R => ta σ H fun vs H1 => ∃ a b, vs = [.ref a] ∧ (∃ xs, Sqb b K H1 a xs) ∧ R (IteB b K a) H1
theorem pi_enumQ {X : Cx} {e : Expr} {ta : TA} {p pos tpos : Pos} {elts : List Expr} {kk : Nat} (hg : Gl X "enumerate") (hm : X.mg "enumerate" = none) (ha : PA X [e] ta) (hs : starEach [e] X.env = [(false, eval e X.env)] := by rfl) :
    PI X (.Tuple elts kk tpos) (.Call (.Name "enumerate" p) [e] [] pos) (iEnumQ X.K ta) := by
  refine ⟨fun pins s σ H R I h => ?_⟩
  refine Call_ (ld_blt I hg hm boot_enumerate (PyProof.Rows.callWith_type1 (thn (ha.run pos pins s σ H _ I h) fun us s1 ⟨vs, H1, I1, r1, q1⟩ => ?_) hs rfl))
  obtain ⟨a, b, ex, ⟨xs, hq⟩, q⟩ := q1
  subst ex
  cases r1 with
  | cons r rr =>
    cases rr
    cases r
    have fp : ∀ b ∈ [s1.heap.objs.size + 1, s1.heap.objs.size], FpOk X pins H1 b := fun b hb => by
      have e' : b = s1.heap.objs.size + 1 ∨ b = s1.heap.objs.size := by simpa using hb
      have hle : s1.heap.objs.size ≤ b := by
        rcases e' with z | z
        · rw [z]; exact Nat.le_add_right _ _
        · rw [z]; exact Nat.le_refl _
      exact I1.fpOk hle (I1.hok.fresh hle)
    cases b with
    | true =>
      have hq : SqL X.K H1 a xs := hq
      obtain ⟨its, rv, p', hz⟩ := I1.list hq
      refine call_enumerate_list p'.isList fun h' he hit hsz hk => wpAny_pyIter_enum he ?_
      have I2 : Inv X pins σ H1 { s1 with heap := h' } := I1.kept (t' := s1.toks) hk
      exact ⟨s1.heap.objs.size + 1, [s1.heap.objs.size + 1, s1.heap.objs.size], _, _, H1, rfl, I2, turn_enum a (s1.heap.objs.size + 1) s1.heap.objs.size, ⟨⟨.none, he⟩, hit, Nat.succ_ne_self _⟩, fp, q⟩
    | false =>
      have hq : SqT X.K H1 a xs := hq
      obtain ⟨its, rv, p', hz⟩ := I1.tuple hq
      refine Kf.call_enumT (show s1.heap.IsTuple a its.toArray from p') fun h' he hit hsz hk => wpAny_pyIter_enum he ?_
      have I2 : Inv X pins σ H1 { s1 with heap := h' } := I1.kept (t' := s1.toks) hk
      exact ⟨s1.heap.objs.size + 1, [s1.heap.objs.size + 1, s1.heap.objs.size], _, _, H1, rfl, I2, turn_enumT a (s1.heap.objs.size + 1) s1.heap.objs.size, ⟨⟨.none, he⟩, hit, Nat.succ_ne_self _⟩, fp, q⟩
end Kf

set_option Elab.async false
set_option linter.all false
set_option maxRecDepth 100000
set_option maxHeartbeats 2000000
namespace Kf
open PySem PySem.Spec PyProof.Rows L2 LamX NdefX TL
/-! ## rows of events -/
def runSt (ps : List (Str × Str)) (gs : List G) (cs : List (Str × List Str)) (s : St3) (es : List (Str × Str)) : St3 := es.foldl (fun s e => (nextOf ps gs cs s e).1) s
def runFl (ps : List (Str × Str)) (gs : List G) (cs : List (Str × List Str)) : St3 → List (Str × Str) → List (List Str)
  | _, [] => []
  | s, e :: r => (nextOf ps gs cs s e).2 :: runFl ps gs cs (nextOf ps gs cs s e).1 r
theorem runFl_snoc {ps : List (Str × Str)} {gs : List G} {cs : List (Str × List Str)} {e : Str × Str} : ∀ (l : List (Str × Str)) (s : St3), runFl ps gs cs s (l ++ [e]) = runFl ps gs cs s l ++ [(nextOf ps gs cs (runSt ps gs cs s l) e).2]
  | [], s => rfl
  | x :: r, s => by
    show (nextOf ps gs cs s x).2 :: runFl ps gs cs (nextOf ps gs cs s x).1 (r ++ [e]) = _
    rw [runFl_snoc r]
    rfl
theorem runSt_snoc {ps : List (Str × Str)} {gs : List G} {cs : List (Str × List Str)} {e : Str × Str} (l : List (Str × Str)) (s : St3) : runSt ps gs cs s (l ++ [e]) = (nextOf ps gs cs (runSt ps gs cs s l) e).1 := by
  unfold runSt
  rw [List.foldl_append]
  rfl
theorem srtS_perm (l : List Str) : (srtS l).Perm l := List.mergeSort_perm ..
theorem srtP_perm (l : List (Str × Str)) : (srtP l).Perm l := List.mergeSort_perm ..
theorem fall_inv {ps : List (Str × Str)} {gs : List G} {cs : List (Str × List Str)} {ea : Tr} {us0 : Uses} (N : NmsOk ps gs) (hs : SpareIn us0 gs) (ok : CausesOk (ps.map (·.1)) (ps.map (·.1) ++ gs.map G.name) cs) : ∀ (k : Nat) (s : FS), FInv ps gs us0 s → FInv ps gs us0 (fall ps gs cs ea k s)
  | 0, s, h => h
  | k + 1, s, h => by
    unfold fall
    split
    · exact h
    · exact fall_inv N hs ok k _ (h.step N hs ok)
section
variable {ps : List (Str × Str)} {gs : List G} {cs : List (Str × List Str)} {tp : Str} {s : St3} {e : Str × Str}
theorem start_inv {fl : List Str} {us : Uses} {hd : List Str} {n : Str} (fok : FailOk ps fl) (hn : n ∈ ps.map (·.1)) (hf : ¬ n ∈ fl) : FInv ps gs us ⟨[n], fl, [], us, truthsIn ps gs fl us hd⟩ :=
  ⟨by simp, fok.nd, fun x hx => by rw [List.mem_singleton.mp hx]; exact hn, fok.sub, fun x hx => by rw [List.mem_singleton.mp hx]; exact hf, rfl, keyAll_tell⟩
theorem failEnd_inv (ok : RunOk ps gs cs tp s.2.1) (fok : FailOk ps s.1) {n : Str} (hn : n ∈ ps.map (·.1)) (hf : ¬ n ∈ s.1) : FInv ps gs s.2.1 (failEnd ps gs cs s.1 s.2.1 s.2.2 n) :=
  fall_inv ok.nms ok.sp ok.pl.causes _ _ (start_inv fok hn hf)
theorem FailOk.perm {l l' : List Str} (h : FailOk ps l) (p : l'.Perm l) : FailOk ps l' := ⟨p.nodup_iff.mpr h.nd, fun x hx => h.sub x (p.mem_iff.mp hx)⟩
theorem mendFl_ok {fl : List Str} {n : Str} (h : FailOk ps fl) : FailOk ps (mendFl fl n) := ⟨h.nd.filter _, fun x hx => h.sub x (List.mem_filter.mp hx).1⟩
theorem next_mend {n : Str} : nextOf ps gs cs s ("mend", n) = ((srtS (mendFl s.1 n), mendUs gs s.1 s.2.1 n, heldOf gs (mendTr ps gs s.1 s.2.1 s.2.2 n)), []) := if_pos rfl
theorem next_fail {n : Str} : nextOf ps gs cs s ("fail", n) = ((srtS (failEnd ps gs cs s.1 s.2.1 s.2.2 n).failed, (failEnd ps gs cs s.1 s.2.1 s.2.2 n).uses, heldOf gs (failEnd ps gs cs s.1 s.2.1 s.2.2 n).now), (failEnd ps gs cs s.1 s.2.1 s.2.2 n).fallen) := if_neg ne_fail_mend
theorem next_ok (ok : RunOk ps gs cs tp s.2.1) (fok : FailOk ps s.1) (he : EvOk ps s e) : RunOk ps gs cs tp (nextOf ps gs cs s e).1.2.1 ∧ FailOk ps (nextOf ps gs cs s e).1.1 := by
  obtain ⟨w0, n⟩ := e
  rcases he.ex with ⟨e1, e2⟩ | ⟨e1, e2, e3, _⟩
  · obtain rfl : w0 = "mend" := e1
    rw [next_mend]
    exact ⟨ok.keys (takeU_keysOf rfl ok.sp), (mendFl_ok fok).perm (srtS_perm _)⟩
  · obtain rfl : w0 = "fail" := e1
    rw [next_fail]
    have I := failEnd_inv (cs := cs) ok fok e2 e3
    exact ⟨ok.keys I.keys, FailOk.perm ⟨I.fnd, I.fsub⟩ (srtS_perm _)⟩
/-- a row of events, each possible when it comes -/
inductive RowOk (ps : List (Str × Str)) (gs : List G) (cs : List (Str × List Str)) : St3 → List (Str × Str) → Prop
  | nil {s : St3} : RowOk ps gs cs s []
  | cons {s : St3} {e : Str × Str} {r : List (Str × Str)} : e ∈ eventsIn ps s.1 s.2.1 → RowOk ps gs cs (nextOf ps gs cs s e).1 r → RowOk ps gs cs s (e :: r)
theorem evIn (h : e ∈ eventsIn ps s.1 s.2.1) : EvOk ps s e := evOk_of ((srtP_perm _).mem_iff.mp h)
theorem RowOk.at {es : List (Str × Str)} : ∀ {i : Nat} {s : St3}, RunOk ps gs cs tp s.2.1 → FailOk ps s.1 → RowOk ps gs cs s es → ∀ {e : Str × Str}, es[i]? = some e → RunOk ps gs cs tp (runSt ps gs cs s (es.take i)).2.1 ∧ FailOk ps (runSt ps gs cs s (es.take i)).1 ∧ e ∈ eventsIn ps (runSt ps gs cs s (es.take i)).1 (runSt ps gs cs s (es.take i)).2.1 := by
  induction es with
  | nil =>
    intro i s _ _ _ e h
    simp at h
  | cons x r ih =>
    intro i s ok fok h e he
    cases h with
    | cons h1 h2 =>
      cases i with
      | zero =>
        obtain rfl := Option.some.inj he
        exact ⟨ok, fok, h1⟩
      | succ i =>
        obtain ⟨o2, f2⟩ := next_ok ok fok (evIn h1)
        exact ih o2 f2 h2 (by simpa using he)
theorem RowOk.all {es : List (Str × Str)} : ∀ {s : St3}, RunOk ps gs cs tp s.2.1 → FailOk ps s.1 → RowOk ps gs cs s es → RunOk ps gs cs tp (runSt ps gs cs s es).2.1 ∧ FailOk ps (runSt ps gs cs s es).1 := by
  induction es with
  | nil => exact fun ok fok _ => ⟨ok, fok⟩
  | cons x r ih =>
    intro s ok fok h
    cases h with
    | cons h1 h2 =>
      obtain ⟨o2, f2⟩ := next_ok ok fok (evIn h1)
      exact ih o2 f2 h2
end
theorem Sm.sqb {T : List NTab} {b : Bool} {K : PySem.W.Frag} {H H' : Hp} {a : Addr} {xs : List V} (e : Sm T H H') (h : Sqb b K H a xs) : Sqb b K H' a xs := by
  cases b with
  | true => exact e.sql h
  | false => exact e.sqt h
/-! ### events as data -/
theorem eqv_part (a b : Str × Str) : PyData.eqv (partD a) (partD b) = decide (a = b) := by
  obtain ⟨a1, a2⟩ := a
  obtain ⟨b1, b2⟩ := b
  unfold partD
  simp only [PyData.eqv, PyData.eqvAll, Bool.and_true]
  by_cases h1 : a1 = b1 <;> by_cases h2 : a2 = b2 <;> simp [h1, h2]
theorem any_part {e : Str × Str} {l : List (Str × Str)} (h : e ∈ l) : ((l.map partD).any fun z => PyData.eqv z (partD e)) = true :=
  List.any_eq_true.mpr ⟨partD e, List.mem_map.mpr ⟨e, h, rfl⟩, by rw [eqv_part]; exact decide_eq_true rfl⟩
theorem w_fail : StrOk "fail" := by decide +kernel
theorem w_mend : StrOk "mend" := by decide +kernel
theorem evSh {ps : List (Str × Str)} {s : St3} {e : Str × Str} (hp : PartsOk ps) (fok : FailOk ps s.1) (h : EvOk ps s e) : ShOk 1 (partD e) := by
  obtain ⟨w0, n⟩ := e
  have two : ∀ {a b : Str}, StrOk a → StrOk b → ShOk 1 (partD (a, b)) := fun h1 h2 => sh_tup fun d hd => by
    rcases List.mem_cons.mp hd with rfl | hd
    · exact sh_str h1
    · obtain rfl := List.mem_singleton.mp hd
      exact sh_str h2
  rcases h.ex with ⟨e1, e2⟩ | ⟨e1, e2, _⟩
  · obtain rfl : w0 = "mend" := e1
    exact two w_mend (hp.names n (fok.sub _ e2))
  · obtain rfl : w0 = "fail" := e1
    exact two w_fail (hp.names n e2)
theorem dp_pairs {K : PySem.W.Frag} {H : Hp} : ∀ {xs : List V} {l : List (Str × Str)}, Paired (PartAt K H) xs l → DpAll K H xs (l.map partD)
  | _, _, .nil => .nil
  | _, _, .cons h t => .cons h.dp (dp_pairs t)
theorem paired_get {α β : Type} {R : α → β → Prop} : ∀ {xs : List α} {l : List β}, Paired R xs l → ∀ {i : Nat} {x : α}, xs[i]? = some x → ∃ p, l[i]? = some p ∧ R x p
  | _, _, .cons r t, 0, x, h => by
    obtain rfl := Option.some.inj h
    exact ⟨_, rfl, r⟩
  | _, _, .cons r t, i + 1, x, h => paired_get t (i := i) (by simpa using h)
theorem StAt.lset {K : PySem.W.Frag} {H : Hp} {v : V} {fl : List Str} {us : Uses} {hd : List Str} {a : Addr} {l l' : List V} (h : StAt K H v fl us hd) (ha : H a = some (.lst l)) : StAt K (upd H a (.lst l')) v fl us hd := by
  have kt : KT K H (upd H a (.lst l')) := kt_lst ha
  obtain ⟨b, c, d, e, ts, e0, h1, h2, ⟨o, h3, h3'⟩, h4, h5⟩ := h.ex
  exact ⟨b, c, d, e, ts, e0, kt _ _ h1, kt _ _ h2, ⟨o, by rw [upd_ne (ne_of h3 ha (by intro z; cases z))]; exact h3, h3'⟩, Paired.imp2 (fun _ _ r => kt _ _ r) h4, kt _ _ h5⟩
section
variable {P : Program} {w : World} {K : PySem.W.Frag} {mg : Str → Option Value} {base : Heap}
def spDoAll (K : PySem.W.Frag) (C CR : Addr) (T0 : List NTab) : Sp := fun vs H Q _ => ∃ x r xs es ps gs cs tp s, vs = [.ref x, .ref r] ∧ RnObj K C CR H x ps gs cs tp s ∧ RunOk ps gs cs tp s.2.1 ∧ FailOk ps s.1 ∧ Sq K H r xs ∧ Paired (PartAt K H) xs es ∧ RowOk ps gs cs s es ∧ es.length ≤ 1000 ∧ TabsN T0 H ∧
  ∀ H' p acc, SmX x T0 H H' → RnObj K C CR H' x ps gs cs tp (runSt ps gs cs s es) → H p = none → H' p = some (.lst acc) → Paired (TxtsAt K H') acc (runFl ps gs cs s es) → Q (.ref p) H'
theorem ok_do_all {f C CR : Addr} {fd : FuncData} {T0 : List NTab} (F : L2.Fun K "do_all" "Run.do_all" s_Run_do_all f fd) (T : Nm mg) (LR : RnC K mg CR) (C_is_list : Cal P w K mg base 1 "is_list" ["value"] (spIsList K)) (C_events_in : Cal P w K mg base 3 "events_in" ["plant", "state"] (spEventsIn K C)) (C_after : Cal P w K mg base 7 "after" ["plant", "state", "event"] (spAfter K C T0)) (M_enter : C8.Met P w K mg base 6 CR "_enter" (spEnter K C CR T0) []) :
    FnOk P w K mg base CX0 8 f fd ["self", "events"] (spDoAll K C CR T0) := by
  refine F.ok sc_Run_do_all (fun vs H Q E h => ?_) (fun cdv A outer s H vs Q E hr h => ?_)
  · obtain ⟨x, r, xs, es, ps, gs, cs, tp, s, rfl, _⟩ := h
    rfl
  · obtain ⟨x, r, xs, es, ps, gs, cs, tp, s3, rfl, hR, ok, fok, hr', hev, row, hel, hT, q⟩ := h
    obtain ⟨dx, a, v, hx, ho, hst⟩ := hR.ex
    obtain ⟨bb, hrb⟩ := hr'.b
    have hu := hu_of hr
    have hu65 : (A.deeper (envOfC "Run.do_all" (defScope s_Run_do_all) s.heap.objs.size f cdv)).units + 65 < cLine := by have := hr.un; omega
    refine ⟨_, (pss_cons (ps_if (pt_not (pt_val (pe_cal C_is_list (by decide) hr (by rfl) (pa_cons (pv 1) pa_nil))))
 (pss_one ps_never)
 pss_nil)
 (pss_cons (ps_set (i := 2) sc_Run_do_all.nd rfl (.inl rfl) (pe_fld (pv 0) rfl))
 (pss_cons (ps_set (i := 3) sc_Run_do_all.nd rfl (.inl rfl) (pe_lst pa_nil))
 (pss_cons (ps_for PassesOwn.never rfl (pi_enumQ (by rfl) T.n_enumerate (pa_cons (pv 1) pa_nil)) (pg_tupK (K := K) (n := 2) rfl rfl (pgs_cons (pg_name (i := 4) sc_Run_do_all.nd rfl (.inl rfl)) (pgs_cons (pg_name (i := 5) sc_Run_do_all.nd rfl (.inl rfl)) pgs_nil)))
 (pss_cons (ps_if (pt_cmpR (op_notInD hu65) (pv 5) (pe_cal C_events_in (by decide) hr (by rfl) (pa_cons (pe_fld (pv 0) rfl) (pa_cons (pv 2) pa_nil))) (by with_unfolding_all rfl))
 (pss_one ps_never)
 pss_nil)
 (pss_cons (ps_asg (pe_cal C_after (by decide) hr (by rfl) (pa_cons (pe_fld (pv 0) rfl) (pa_cons (pv 2) (pa_cons (pv 5) pa_nil)))) (pg_tupK (K := K) (n := 2) rfl rfl (pgs_cons (pg_name (i := 2) sc_Run_do_all.nd rfl (.inl rfl)) (pgs_cons (pg_name (i := 6) sc_Run_do_all.nd rfl (.inl rfl)) pgs_nil))))
 (pss_one (ps_expr (pe_bm PySem.F.plainAttrs_list PySem.F.slot_list_append PySem.F.type_list_append mt_append (pv 3) (pa_cons (pv 6) pa_nil)))))))
 (pss_cons (ps_expr (C8.pe_mt M_enter hr (by decide) (pv 0) (pa_cons (pv 2) pa_nil)))
 (pss_one (ps_ret (pv 3)))))))), ?_⟩
    refine ⟨.ref r, rfl, ⟨.ref r, rfl, ⟨r, xs, rfl, hr'⟩, fun H1 s1 => ⟨true, rfl, iteF ?_⟩⟩⟩
    refine tNext_of ?_
    refine ⟨.ref x, rfl, x, CR, dx, _, v, rfl, s1 _ _ hx, LR.cl, LR.nS, rnF_s, ?_⟩
    refine ⟨Nat.zero_le _, fun M nM => ?_⟩
    have s2 := s1.trans (Same.new (o := .lst []) nM)
    have nM0 : H M = none := s1.free nM
    refine ⟨.ref r, rfl, r, bb, rfl, ⟨xs, Same.sqb s2 hrb⟩, for_it (walk_enumQ (b := bb) (xs := xs)) (fun i σ H2 => ∃ v2 y4 y5 y6 acc, σ = [some (.ref x), some (.ref r), some v2, some (.ref M), y4, y5, y6] ∧ Sm T0 H H2 ∧ St3At K H2 v2 (runSt ps gs cs s3 (es.take i)) ∧ H2 M = some (.lst acc) ∧ Paired (TxtsAt K H2) acc (runFl ps gs cs s3 (es.take i))) ⟨v, _, _, _, [], rfl, Same.sm s2, hst.same s2, upd_same, .nil⟩ (fun i σ H2 hi p => ?_) (fun i y σ H2 H3 hi p yy => ?_) (fun σ H2 p => ?_)⟩
    · obtain ⟨_, _, _, _, _, _, sm, _⟩ := p
      exact sm.sqb hrb
    · obtain ⟨v2, y4, y5, y6, acc, rfl, sm, hv2, hM, hacc⟩ := p
      obtain ⟨T', i', ev, rfl, nT, rfl, hi', hev'⟩ := yy
      obtain rfl := Option.some.inj hi'
      obtain ⟨e, he, rev⟩ := paired_get hev hev'
      obtain ⟨ok2, fok2, hin⟩ := row.at ok fok he
      have eTake : es.take (i + 1) = es.take i ++ [e] := by rw [List.take_add_one, he]; rfl
      have s3' : Same H2 (upd H2 T' (.tup [.int (i : Int), ev])) := Same.new nT
      have sm3 := sm.trans (Same.sm (T := T0) s3')
      have hx3 := sm3.lst hx (by intro _ z; cases z)
      have hil : i < es.length := (List.getElem?_eq_some_iff.mp he).1
      generalize eS : runSt ps gs cs s3 (es.take i) = si at *
      have hpl := ok.pl.parts.hi
      have hfl := fok2.len
      refine ⟨T', _, rfl, .of upd_same, rfl, .int (i : Int), _, rfl, ev, [], rfl, rfl, ?_⟩
      refine ⟨ev, rfl, .ref x, rfl, x, CR, dx, _, .ref a, rfl, hx3, LR.cl, LR.nP, rnF_p, v2, rfl, ⟨a, v2, ps, gs, cs, tp, si.1, si.2.1, si.2.2, rfl, ho.sm sm3, hv2.same s3', by omega, by omega, by have := ok2.ul; omega, fun H4 p xs4 s4 np hp hxs => ?_⟩⟩
      have sh1 := evSh ok.pl.parts fok2 (evIn hin)
      have sm4 := sm3.trans (Same.sm (T := T0) s4)
      have s34 := s3'.trans s4
      refine ⟨partD e, (eventsIn ps si.1 si.2.1).map partD, (PartAt.kt sm4.kt rev).dp, .lst (.of hp) (dp_pairs hxs), sh1.shaped (by decide), shaped_list fun d hd => ?_, false, by rw [any_part hin]; rfl, iteF ?_⟩
      · obtain ⟨e2, he2, rfl⟩ := List.mem_map.mp hd
        exact (evSh ok.pl.parts fok2 (evIn he2)).up (by decide)
      refine tNext_of ?_
      have hx4 := s4 _ _ hx3
      refine ⟨.ref x, rfl, x, CR, dx, _, .ref a, rfl, hx4, LR.cl, LR.nP, rnF_p, v2, rfl, ev, rfl, ⟨a, v2, ev, e, ps, gs, cs, tp, si, rfl, ho.sm sm4, hv2.same s34, PartAt.kt sm4.kt rev, ok2, fok2, evIn hin, sm4.tb hT, fun H5 p' v' t' sm5 hp' hv' ht' => ?_⟩⟩
      refine ⟨p', _, rfl, hp', rfl, v', _, rfl, .ref t', [], rfl, rfl, ?_⟩
      have sm25 : Sm T0 H2 H5 := (Same.sm s34).trans sm5
      have hM5 := sm25.list hM
      have lacc : acc.length ≤ 1000 := by
        have h1 := Paired.length hacc
        have h2 : ∀ (l : List (Str × Str)) (s : St3), (runFl ps gs cs s l).length = l.length := by
          intro l
          induction l with
          | nil => exact fun s => rfl
          | cons z r ih => exact fun s => by show (runFl ps gs cs _ r).length + 1 = _; rw [ih]; rfl
        rw [h2, List.length_take] at h1
        omega
      refine ⟨.ref M, rfl, .inl ⟨rfl, _, .of hM5⟩, .ref t', rfl, M, acc, .ref t', rfl, rfl, hM5, small1000 lacc, ?_⟩
      have smF : Sm T0 H (upd H5 M (.lst (acc ++ [.ref t']))) := (sm.trans sm25).at nM0 hM5
      have kt5 : KT K H5 (upd H5 M (.lst (acc ++ [.ref t']))) := kt_lst hM5
      refine ⟨v', _, _, _, acc ++ [.ref t'], rfl, smF, ?_, upd_same, ?_⟩
      · rw [eTake, runSt_snoc, eS]
        exact hv'.lset hM5
      · rw [eTake, runFl_snoc, eS]
        refine Paired.app ⟨t', rfl, kt5 _ _ ht'⟩ (Paired.imp2 (fun _ _ h => ?_) hacc)
        obtain ⟨b, z1, z2⟩ := h
        exact ⟨b, z1, kt5 _ _ (sm25.sqt z2)⟩
    · obtain ⟨v2, y4, y5, y6, acc, rfl, sm, hv2, hM, hacc⟩ := p
      have elx : xs.length = es.length := Paired.length hev
      rw [elx, List.take_length] at hv2 hacc
      obtain ⟨ok2, fok2⟩ := row.all ok fok
      have hx2 := sm.lst hx (by intro _ z; cases z)
      have ho2 := ho.sm sm
      refine ⟨.ref x, rfl, x, dx, _, rfl, hx2, rnF_no (by decide +kernel) (by decide +kernel) (by decide +kernel), v2, rfl, ⟨x, v2, dx, _, a, ps, gs, cs, tp, runSt ps gs cs s3 es, rfl, hx2, .inr ⟨_, _, rfl⟩, ho2, hv2, ok2, sm.tb hT, fun H3 x3 hx3 => ?_⟩⟩
      have ne := ho2.ne hx2 (.inr ⟨_, _, rfl⟩)
      refine ⟨.ref M, rfl, q H3 M acc (sm.x.trans x3) ⟨dx, a, v2, hx3, ho2.smx x3 hx2 ne, StAt.smx x3 hx2 hv2⟩ nM0 (x3.kp _ _ hM (by intro _ z; cases z) (ne_of hM hx2 (by intro z; cases z))) (Paired.imp2 (fun _ _ h => ?_) hacc)⟩
      obtain ⟨b, z1, z2⟩ := h
      exact ⟨b, z1, x3.sqt hx2 z2⟩
def spDo (K : PySem.W.Frag) (C CR : Addr) (T0 : List NTab) : Sp := fun vs H Q _ => ∃ x ev e ps gs cs tp s, vs = [.ref x, ev] ∧ RnObj K C CR H x ps gs cs tp s ∧ RunOk ps gs cs tp s.2.1 ∧ FailOk ps s.1 ∧ PartAt K H ev e ∧ e ∈ eventsIn ps s.1 s.2.1 ∧ TabsN T0 H ∧
  ∀ H' v, SmX x T0 H H' → RnObj K C CR H' x ps gs cs tp (nextOf ps gs cs s e).1 → TxtsAt K H' v (nextOf ps gs cs s e).2 → Q v H'
theorem ok_do {f C CR : Addr} {fd : FuncData} {T0 : List NTab} (F : L2.Fun K "do" "Run.do" s_Run_do f fd) (T : Nm mg) (M_do_all : C8.Met P w K mg base 8 CR "do_all" (spDoAll K C CR T0) []) : FnOk P w K mg base CX0 9 f fd ["self", "event"] (spDo K C CR T0) := by
  refine F.ok sc_Run_do (fun vs H Q E h => ?_) (fun cdv A outer s H vs Q E hr h => ?_)
  · obtain ⟨x, ev, e, ps, gs, cs, tp, s, rfl, _⟩ := h
    rfl
  · obtain ⟨x, ev, e, ps, gs, cs, tp, s3, rfl, hR, ok, fok, hev, hin, hT, q⟩ := h
    obtain ⟨dx, a, v, hx, ho, hst⟩ := hR.ex
    refine ⟨_, pss_one (ps_ret (pe_ix ix_list (C8.pe_mt M_do_all hr (by decide) (pv 0) (pa_cons (pe_lst (pa_cons (pv 1) pa_nil)) pa_nil)) pe_int (fun _ _ => rfl))), ?_⟩
    refine ⟨.ref x, rfl, x, dx, _, rfl, hx, rnF_no (by decide +kernel) (by decide +kernel) (by decide +kernel), ev, rfl, by show 1 ≤ sizeLine; decide, fun l nl => ?_⟩
    have s1 : Same H (upd H l (.lst [ev])) := Same.new nl
    have sm1 : Sm T0 H _ := Same.sm s1
    refine ⟨x, l, [ev], [e], ps, gs, cs, tp, s3, rfl, hR.sm sm1, ok, fok, .inl (.of upd_same), .cons (PartAt.kt sm1.kt hev) .nil, .cons hin .nil, by show 1 ≤ 1000; decide, hT.ext s1, fun H2 p acc x2 hR2 np hp hacc => ?_⟩
    cases hacc with
    | cons h0 t =>
      cases t
      exact ⟨p, _, 0, _, rfl, rfl, .of hp, at0, q H2 _ (sm1.x.trans x2) hR2 h0⟩
end
end Kf

set_option Elab.async false
set_option linter.all false
set_option maxRecDepth 100000
set_option maxHeartbeats 2000000
namespace Kf
open PySem PySem.Spec PyProof.Rows L2
/-! ## what spare gates use, and what that means -/
def Dist (us : Uses) : Prop := us.Pairwise fun a b => a.2 = b.2 → a.2 = emptyS
def Pool (l : List G) (us : Uses) : Prop := ∀ n qs, G.spare n qs ∈ l → ∀ z, getA us n = some z → z ≠ emptyS → z ∈ qs
theorem getA_mem {us : Uses} {m z : Str} (h : getA us m = some z) : (m, z) ∈ us := by
  unfold getA at h
  obtain ⟨p, hp, e⟩ := Option.map_eq_some_iff.mp h
  have e1 : p.1 = m := by simpa using List.find?_some hp
  have e2 := List.mem_of_find?_eq_some hp
  rw [← e1, ← e]
  exact e2
theorem getA_vals {us : Uses} {m z : Str} (h : getA us m = some z) : z ∈ us.map (·.2) := List.mem_map.mpr ⟨(m, z), getA_mem h, rfl⟩
theorem getA_of {us : Uses} (nd : KeysNd us) {m z : Str} (h : (m, z) ∈ us) : getA us m = some z := by
  have hk : (us.any fun p => decide (p.1 = m)) = true := List.any_eq_true.mpr ⟨_, h, decide_eq_true rfl⟩
  obtain ⟨x, hx⟩ := getA_of_any hk
  have h2 := getA_mem hx
  obtain ⟨i, hi, ei⟩ := List.mem_iff_getElem.mp h
  obtain ⟨j, hj, ej⟩ := List.mem_iff_getElem.mp h2
  have nd2 := List.pairwise_iff_getElem.mp nd
  have eij : i = j := by
    rcases Nat.lt_trichotomy i j with c | c | c
    · exact absurd (by rw [List.getElem_map, List.getElem_map, ei, ej]) (nd2 i j (by simpa using hi) (by simpa using hj) c)
    · exact c
    · exact absurd (by rw [List.getElem_map, List.getElem_map, ei, ej]) (nd2 j i (by simpa using hj) (by simpa using hi) c)
  subst eij
  rw [ei] at ej
  rw [hx, (Prod.mk.inj ej).2]
theorem vals_getA {us : Uses} (nd : KeysNd us) {z : Str} (h : z ∈ us.map (·.2)) : ∃ m, getA us m = some z := by
  obtain ⟨⟨m, y⟩, hp, rfl⟩ := List.mem_map.mp h
  exact ⟨m, getA_of nd hp⟩
theorem dist_set {us : Uses} {n v : Str} (nd : KeysNd us) (h : Dist us) (hk : (us.any fun p => decide (p.1 = n)) = true) (hv : v = emptyS ∨ ¬ v ∈ us.map (·.2)) : Dist (setA us n v) := by
  unfold setA
  rw [if_pos hk]
  unfold Dist
  rw [List.pairwise_map]
  have nd2 : us.Pairwise fun a b => a.1 ≠ b.1 := List.pairwise_map.mp nd
  have both : us.Pairwise fun a b => (a.2 = b.2 → a.2 = emptyS) ∧ a.1 ≠ b.1 := h.and nd2
  refine both.imp_of_mem fun {a b} ha hb hab e => ?_
  obtain ⟨h1, h2⟩ := hab
  have hva : ¬ v = emptyS → v ≠ a.2 := fun ne e => hv.elim ne fun z => z (List.mem_map.mpr ⟨a, ha, e.symm⟩)
  have hvb : ¬ v = emptyS → v ≠ b.2 := fun ne e => hv.elim ne fun z => z (List.mem_map.mpr ⟨b, hb, e.symm⟩)
  by_cases ea : a.1 = n
  · have eb : ¬ b.1 = n := fun z => h2 (ea.trans z.symm)
    rw [if_pos ea, if_neg eb] at e
    rw [if_pos ea]
    by_cases c : v = emptyS
    · exact c
    · exact absurd e (hvb c)
  · rw [if_neg ea] at e ⊢
    by_cases eb : b.1 = n
    · rw [if_pos eb] at e
      by_cases c : v = emptyS
      · exact e.trans c
      · exact absurd e.symm (hva c)
    · rw [if_neg eb] at e
      exact h1 e
structure TakeR (fl : List Str) (l : List G) (us us' : Uses) : Prop where
  dist : Dist us'
  keep : ∀ m z, getA us m = some z → z ≠ emptyS → ¬ z ∈ fl → getA us' m = some z
  rest : ∀ m, ¬ m ∈ l.map G.name → getA us' m = getA us m
  sp : ∀ n qs, G.spare n qs ∈ l → ∃ z, getA us' n = some z ∧ (z = emptyS → ∀ p ∈ qs, p ∈ fl ∨ p ∈ us'.map (·.2)) ∧ (z ≠ emptyS → z ∈ qs ∧ ¬ z ∈ fl)
theorem head_or {l : List Str} : l.headD emptyS = emptyS ∧ l = [] ∨ l.headD emptyS ∈ l := by
  cases l with
  | nil => exact .inl ⟨rfl, rfl⟩
  | cons x r => exact .inr (List.mem_cons_self ..)
theorem take_loop {fl : List Str} : ∀ (l : List G) (us : Uses), (l.map G.name).Nodup → (∀ n qs, G.spare n qs ∈ l → KeyIn us n) → Full l → Pool l us → Dist us → KeysNd us → TakeR fl l us (takeU fl us l)
  | [], us, _, _, _, _, hd, _ => ⟨hd, fun m z h _ _ => h, fun m _ => rfl, fun n qs h => by cases h⟩
  | g :: r, us, hnd, hk, hf, hp, hd, nd => by
    have hnd2 := List.nodup_cons.mp hnd
    have same : take1 fl us g = us → TakeR fl r us (takeU fl us r) := fun e => take_loop r us hnd2.2 (fun n qs h => hk n qs (List.mem_cons_of_mem _ h)) (fun n qs h => hf n qs (List.mem_cons_of_mem _ h)) (fun n qs h => hp n qs (List.mem_cons_of_mem _ h)) hd nd
    have other : (∀ n qs, g ≠ G.spare n qs) → take1 fl us g = us := fun h => by
      cases g with
      | spare n qs => exact absurd rfl (h n qs)
      | _ => rfl
    show TakeR fl (g :: r) us (takeU fl (take1 fl us g) r)
    by_cases hs : ∃ n qs, g = G.spare n qs
    · obtain ⟨n, qs, rfl⟩ := hs
      have hkn : (us.any fun p => decide (p.1 = n)) = true := hk n qs (List.mem_cons_self ..)
      obtain ⟨z0, hz0⟩ := getA_of_any hkn
      have hnr : ¬ n ∈ r.map G.name := hnd2.1
      by_cases c : z0 = emptyS ∨ z0 ∈ fl
      · have e1 : take1 fl us (.spare n qs) = setA us n ((freeOf fl us qs).headD emptyS) := by
          show (if (getA us n).getD emptyS = emptyS ∨ (getA us n).getD emptyS ∈ fl then _ else us) = _
          rw [hz0]
          exact if_pos c
        generalize ev : (freeOf fl us qs).headD emptyS = v at e1
        have hfree : ∀ x ∈ freeOf fl us qs, x ∈ qs ∧ ¬ x ∈ fl ∧ ¬ x ∈ us.map (·.2) := fun x hx => by
          obtain ⟨h1, h2⟩ := List.mem_filter.mp hx
          simp only [Bool.and_eq_true, Bool.not_eq_true', decide_eq_false_iff_not] at h2
          exact ⟨h1, h2.1, h2.2⟩
        have hv : (v = emptyS ∧ freeOf fl us qs = []) ∨ v ∈ freeOf fl us qs := by rw [← ev]; exact head_or
        have hd1 : Dist (setA us n v) := dist_set nd hd hkn (hv.elim (fun h => .inl h.1) fun h => .inr (hfree v h).2.2)
        have k1 : (setA us n v).map (·.1) = us.map (·.1) := setA_keys hkn
        have nd1 : KeysNd (setA us n v) := by unfold KeysNd; rw [k1]; exact nd
        have g1 : ∀ m, getA (setA us n v) m = if m = n then some v else getA us m := fun m => getA_setA
        have ih := take_loop (fl := fl) r (setA us n v) hnd2.2 (fun m qs' h => by
            unfold KeyIn
            rw [any_keys k1]
            exact hk m qs' (List.mem_cons_of_mem _ h)) (fun m qs' h => hf m qs' (List.mem_cons_of_mem _ h)) (fun m qs' h z hz hne => by
            have hmn : m ≠ n := fun e => hnr (e ▸ List.mem_map.mpr ⟨_, h, rfl⟩)
            rw [g1, if_neg hmn] at hz
            exact hp m qs' (List.mem_cons_of_mem _ h) z hz hne) hd1 nd1
        rw [e1]
        refine ⟨ih.dist, fun m z hz h1 h2 => ?_, fun m hm => ?_, fun m qs' hm => ?_⟩
        · have hmn : m ≠ n := fun e => by
            rw [e, hz0] at hz
            obtain rfl := Option.some.inj hz
            exact c.elim h1 h2
          exact ih.keep m z (by rw [g1, if_neg hmn]; exact hz) h1 h2
        · have h1 : ¬ m ∈ r.map G.name := fun h => hm (List.mem_cons_of_mem _ h)
          have h2 : m ≠ n := fun e => hm (by rw [e]; exact List.mem_cons_self ..)
          rw [ih.rest m h1, g1, if_neg h2]
        · rcases List.mem_cons.mp hm with e | hm
          · cases e
            have hn' : getA (takeU fl (setA us n v) r) n = some v := by rw [ih.rest n hnr, g1, if_pos rfl]
            refine ⟨v, hn', fun ve p hp' => ?_, fun vne => ?_⟩
            · have hnil : freeOf fl us qs = [] := by
                rcases hv with h | h
                · exact h.2
                · exact absurd ve (hf n qs (List.mem_cons_self ..) v (hfree v h).1)
              by_cases hpf : p ∈ fl
              · exact .inl hpf
              · right
                have hpe : p ≠ emptyS := hf n qs (List.mem_cons_self ..) p hp'
                have hpu : p ∈ us.map (·.2) := by
                  by_cases hu : p ∈ us.map (·.2)
                  · exact hu
                  · have : p ∈ freeOf fl us qs := List.mem_filter.mpr ⟨hp', by simp only [Bool.and_eq_true, Bool.not_eq_true', decide_eq_false_iff_not]; exact ⟨hpf, hu⟩⟩
                    rw [hnil] at this
                    cases this
                obtain ⟨m, hm⟩ := vals_getA nd hpu
                have hmn : m ≠ n := fun e => by
                  rw [e, hz0] at hm
                  obtain rfl := Option.some.inj hm
                  exact c.elim hpe hpf
                exact getA_vals (ih.keep m p (by rw [g1, if_neg hmn]; exact hm) hpe hpf)
            · rcases hv with h | h
              · exact absurd h.1 vne
              · exact ⟨(hfree v h).1, (hfree v h).2.1⟩
          · exact ih.sp m qs' hm
      · have hne : z0 ≠ emptyS := fun e => c (.inl e)
        have hnf : ¬ z0 ∈ fl := fun e => c (.inr e)
        have e1 : take1 fl us (.spare n qs) = us := by
          show (if (getA us n).getD emptyS = emptyS ∨ (getA us n).getD emptyS ∈ fl then _ else us) = _
          rw [hz0]
          exact if_neg c
        have ih := same e1
        rw [e1]
        refine ⟨ih.dist, ih.keep, fun m hm => ih.rest m fun h => hm (List.mem_cons_of_mem _ h), fun m qs' hm => ?_⟩
        rcases List.mem_cons.mp hm with e | hm
        · cases e
          exact ⟨z0, ih.keep n z0 hz0 hne hnf, fun e => absurd e hne, fun _ => ⟨hp n qs (List.mem_cons_self ..) z0 hz0 hne, hnf⟩⟩
        · exact ih.sp m qs' hm
    · have e1 := other fun n qs e => hs ⟨n, qs, e⟩
      have ih := same e1
      rw [e1]
      refine ⟨ih.dist, ih.keep, fun m hm => ih.rest m fun h => hm (List.mem_cons_of_mem _ h), fun m qs' hm => ?_⟩
      rcases List.mem_cons.mp hm with e | hm
      · exact absurd ⟨m, qs', e.symm⟩ hs
      · exact ih.sp m qs' hm
end Kf

set_option Elab.async false
set_option linter.all false
set_option maxRecDepth 100000
set_option maxHeartbeats 2000000
namespace Kf
open PySem PySem.Spec PyProof.Rows L2
/-! ## what failing and mending do -/
structure UInv (gs : List G) (fl : List Str) (us : Uses) : Prop where
  dist : Dist us
  keys : us.map (·.1) = (initU gs).map (·.1)
  sp : ∀ n qs, G.spare n qs ∈ gs → ∃ z, getA us n = some z ∧ (z = emptyS → ∀ p ∈ qs, p ∈ fl ∨ p ∈ us.map (·.2)) ∧ (z ≠ emptyS → z ∈ qs ∧ ¬ z ∈ fl)
theorem init_val : ∀ (gs : List G) (us : Uses), (∀ p ∈ us, p.2 = emptyS) → ∀ p ∈ gs.foldl init1 us, p.2 = emptyS
  | [], us, h => h
  | g :: r, us, h => by
    refine init_val r _ ?_
    cases g with
    | spare n qs =>
      show ∀ p ∈ setA us n emptyS, p.2 = emptyS
      unfold setA
      split
      · intro p hp
        obtain ⟨q, hq, rfl⟩ := List.mem_map.mp hp
        split
        · rfl
        · exact h q hq
      · intro p hp
        rcases List.mem_append.mp hp with hp | hp
        · exact h p hp
        · obtain rfl := List.mem_singleton.mp hp
          rfl
    | _ => exact h
theorem UInv.take {gs : List G} {fl : List Str} {us : Uses} (nd : (gs.map G.name).Nodup) (hf : Full gs) (ku : KeysNd us) (e : us.map (·.1) = (initU gs).map (·.1)) (hp : Pool gs us) (hd : Dist us) : UInv gs fl (takeU fl us gs) ∧ TakeR fl gs us (takeU fl us gs) := by
  have hs : SpareIn us gs := spareIn_keys e (initU_spare gs)
  have R := take_loop (fl := fl) gs us nd hs hf hp hd ku
  exact ⟨⟨R.dist, (takeU_keys hs).trans e, R.sp⟩, R⟩
theorem UInv.pool {gs : List G} {fl : List Str} {us : Uses} (h : UInv gs fl us) : Pool gs us := fun n qs hm z hz hne => by
  obtain ⟨z', h1, _, h3⟩ := h.sp n qs hm
  rw [hz] at h1
  obtain rfl := Option.some.inj h1
  exact (h3 hne).1
/-- what is empty stays so while failures alone come -/
theorem stay {gs : List G} {fl fl' : List Str} {us : Uses} (h : UInv gs fl us) (hs : ∀ x ∈ fl, x ∈ fl') (hf : Full gs) (ku : KeysNd us) (R : TakeR fl' gs us (takeU fl' us gs)) {n : Str} {qs : List Str} (hm : G.spare n qs ∈ gs) (he : getA us n = some emptyS) : getA (takeU fl' us gs) n = some emptyS := by
  obtain ⟨z0, h1, h2, _⟩ := h.sp n qs hm
  rw [he] at h1
  obtain rfl := Option.some.inj h1
  obtain ⟨z, g1, _, g3⟩ := R.sp n qs hm
  by_cases c : z = emptyS
  · rw [g1, c]
  · obtain ⟨m1, m2⟩ := g3 c
    rcases h2 rfl z m1 with h | h
    · exact absurd (hs z h) m2
    · obtain ⟨m, hm2⟩ := vals_getA ku h
      have k := R.keep m z hm2 c m2
      by_cases e : m = n
      · rw [e, he] at hm2
        exact absurd (Option.some.inj hm2).symm c
      · exfalso
        -- both m and n use z
        have d := R.dist
        have a1 := getA_mem k
        have a2 := getA_mem g1
        obtain ⟨i, hi, ei⟩ := List.mem_iff_getElem.mp a1
        obtain ⟨j, hj, ej⟩ := List.mem_iff_getElem.mp a2
        have pw := List.pairwise_iff_getElem.mp d
        rcases Nat.lt_trichotomy i j with cc | cc | cc
        · have := pw i j hi hj cc (by rw [ei, ej])
          rw [ei] at this
          exact c this
        · subst cc
          rw [ei] at ej
          exact e (Prod.mk.inj ej).1
        · have := pw j i hj hi cc (by rw [ei, ej])
          rw [ej] at this
          exact c this
theorem count_le {l : List Str} {t t' : Tr} (h : ∀ x ∈ l, lookT t x = true → lookT t' x = true) : (l.filter (lookT t)).length ≤ (l.filter (lookT t')).length := by
  induction l with
  | nil => exact Nat.le_refl _
  | cons x r ih =>
    have ih := ih fun y hy => h y (List.mem_cons_of_mem _ hy)
    have hx := h x (List.mem_cons_self ..)
    rw [List.filter_cons, List.filter_cons]
    by_cases c : lookT t x = true
    · rw [if_pos c, if_pos (hx c)]
      simpa using ih
    · rw [if_neg c]
      split
      · simp
        omega
      · exact ih
/-- the invariant of a state -/
structure SI (ps : List (Str × Str)) (gs : List G) (cs : List (Str × List Str)) (tp : Str) (s : St3) : Prop where
  ok : RunOk ps gs cs tp s.2.1
  fok : FailOk ps s.1
  ui : UInv gs s.1 s.2.1
  hd : ∀ n x y, G.before n x y ∈ gs → n ∈ s.2.2 → lookT (trIn ps gs s) x = true ∧ lookT (trIn ps gs s) y = true
theorem full_of {ps : List (Str × Str)} {gs : List G} {cs : List (Str × List Str)} {tp : Str} (h : PlantOk ps gs cs tp) : Full gs := by
  have gp : GP (ps.map (·.1)) gs := h.gates.each
  refine gp.full fun x hx => ?_
  obtain ⟨p, hp, rfl⟩ := List.mem_map.mp hx
  exact (h.parts.each p hp).name
theorem keysNd_of {gs : List G} {us : Uses} (nd : (gs.map G.name).Nodup) (e : us.map (·.1) = (initU gs).map (·.1)) : KeysNd us := by
  have ei : initU gs = [] ++ (spares gs).map fun n => (n, emptyS) := init_core gs [] (by show (([] : Uses).map (·.1) ++ spares gs).Nodup; simpa using List.Sublist.nodup (spares_sub gs) nd)
  unfold KeysNd
  rw [e, ei, List.nil_append, List.map_map, show ((fun x : Str × Str => x.1) ∘ fun n => (n, emptyS)) = id from rfl, List.map_id]
  exact List.Sublist.nodup (spares_sub gs) nd
theorem dist_empty {us : Uses} (h : ∀ p ∈ us, p.2 = emptyS) : Dist us := by
  unfold Dist
  refine List.pairwise_of_forall_mem_list fun a ha b hb _ => h a ha
theorem si_first {ps : List (Str × Str)} {gs : List G} {cs : List (Str × List Str)} {tp : Str} (h : PlantOk ps gs cs tp) : SI ps gs cs tp (st0 gs) := by
  have gp : GP (ps.map (·.1)) gs := h.gates.each
  have nd := (nmsOk_of gp).gn
  have he : ∀ p ∈ initU gs, p.2 = emptyS := init_val gs [] fun p hp => by cases hp
  refine ⟨first_run h, ⟨List.nodup_nil, fun x hx => by cases hx⟩, ?_, fun n x y _ hn => by cases hn⟩
  exact (UInv.take (fl := []) nd (full_of h) (keysNd_of nd rfl) rfl (fun n qs _ z hz hne => absurd (he _ (getA_mem hz)) hne) (dist_empty he)).1
section
variable {ps : List (Str × Str)} {gs : List G} {cs : List (Str × List Str)} {tp : Str} {s : St3}
/-- a state tells the truths behind the event that led to it -/
theorem told_again (N : NmsOk ps gs) {fl fl' : List Str} {us : Uses} {ea : Tr} (hfl : ∀ x, x ∈ fl' ↔ x ∈ fl) : ∀ x ∈ ps.map (·.1) ++ gs.map G.name, lookT (truthsIn ps gs fl' us (heldOf gs (truthsNow ps gs fl us ea))) x = lookT (truthsNow ps gs fl us ea) x := by
  have key : ∀ i, i ≤ gs.length → ∀ x ∈ ps.map (·.1) ++ (gs.take i).map G.name, lookT (truthsIn ps gs fl' us (heldOf gs (truthsNow ps gs fl us ea))) x = lookT (truthsNow ps gs fl us ea) x := by
    intro i
    induction i with
    | zero =>
      intro _ x hx
      have hx : x ∈ ps.map (·.1) := by simpa using hx
      unfold truthsIn truthsNow
      rw [tell_part N hx, tell_part N hx]
      by_cases c : x ∈ fl
      · rw [decide_eq_true c, decide_eq_true ((hfl x).mpr c)]
      · rw [decide_eq_false c, decide_eq_false fun z => c ((hfl x).mp z)]
    | succ i ih =>
      intro hi x hx
      have ih := ih (by omega)
      have hg : gs[i]? = some gs[i] := List.getElem?_eq_getElem (by omega)
      have old : x ∈ ps.map (·.1) ++ (gs.take i).map G.name ∨ x = gs[i].name := by
        rw [List.take_add_one, hg, List.map_append] at hx
        rcases List.mem_append.mp hx with h | h
        · exact .inl (List.mem_append.mpr (.inl h))
        · rcases List.mem_append.mp h with h | h
          · exact .inl (List.mem_append.mpr (.inr h))
          · exact .inr (by simpa using h)
      rcases old with h | rfl
      · exact ih x h
      · have hm : gs[i] ∈ gs := List.getElem_mem _
        have rd := N.rd i _ hg
        have e1 := tell_gate (us := us) (fl := fl') N (local_held (heldOf gs (truthsNow ps gs fl us ea))) hm
        have e2 := tell_gate (us := us) (fl := fl) N (local_now ea) hm
        show lookT (tellM _ _ _ _ _) _ = lookT (tellM _ _ _ _ _) _
        rw [e1, e2]
        cases eg : gs[i] with
        | all n ins => rw [eg] at rd; exact all_congr fun x hx => ih x (rd x hx)
        | any n ins => rw [eg] at rd; exact any_congr fun x hx => ih x (rd x hx)
        | least n m ins =>
          rw [eg] at rd
          have := filter_congr2 (l := ins) (t := truthsIn ps gs fl' us (heldOf gs (truthsNow ps gs fl us ea))) (t' := truthsNow ps gs fl us ea) fun x hx => ih x (rd x hx)
          show decide (m ≤ (((ins.filter (lookT (truthsIn ps gs fl' us (heldOf gs (truthsNow ps gs fl us ea))))).length : Nat) : Int)) = decide (m ≤ (((ins.filter (lookT (truthsNow ps gs fl us ea))).length : Nat) : Int))
          rw [this]
        | before n x y =>
          show decide (n ∈ heldOf gs (truthsNow ps gs fl us ea)) = _
          have e3 : lookT (truthsNow ps gs fl us ea) n = bfNow ea (.before n x y) (truthsNow ps gs fl us ea) := by
            have := e2
            rw [eg] at this
            exact this
          rw [show truthF (bfNow ea) us (tellM (bfNow ea) fl us ps gs) (.before n x y) = bfNow ea (.before n x y) (truthsNow ps gs fl us ea) from rfl, ← e3]
          by_cases c : lookT (truthsNow ps gs fl us ea) n = true
          · rw [c]
            refine decide_eq_true (List.mem_map.mpr ⟨.before n x y, List.mem_filter.mpr ⟨eg ▸ hm, ?_⟩, rfl⟩)
            show (true && lookT (truthsNow ps gs fl us ea) n) = true
            rw [c]
            rfl
          · have c2 : lookT (truthsNow ps gs fl us ea) n = false := by simpa using c
            rw [c2]
            refine decide_eq_false fun z => ?_
            obtain ⟨g, h1, h2⟩ := List.mem_map.mp z
            have h3 := (List.mem_filter.mp h1).2
            unfold isHeld at h3
            rw [Bool.and_eq_true] at h3
            rw [h2, c2] at h3
            cases h3.2
        | spare n qs => rfl
  intro x hx
  refine key gs.length (Nat.le_refl _) x ?_
  rw [List.take_length]
  exact hx
/-- behind failures alone nothing true becomes false -/
theorem mono_up (N : NmsOk ps gs) {fl fl' : List Str} {us us' : Uses} {hd : List Str} (h1 : ∀ x ∈ fl, x ∈ fl') (h2 : ∀ n qs, G.spare n qs ∈ gs → (getA us n).getD emptyS = emptyS → (getA us' n).getD emptyS = emptyS)
    (h3 : ∀ n x y, G.before n x y ∈ gs → n ∈ hd → lookT (truthsIn ps gs fl us hd) x = true ∧ lookT (truthsIn ps gs fl us hd) y = true) :
    ∀ x ∈ ps.map (·.1) ++ gs.map G.name, lookT (truthsIn ps gs fl us hd) x = true → lookT (truthsNow ps gs fl' us' (truthsIn ps gs fl us hd)) x = true := by
  have key : ∀ i, i ≤ gs.length → ∀ x ∈ ps.map (·.1) ++ (gs.take i).map G.name, lookT (truthsIn ps gs fl us hd) x = true → lookT (truthsNow ps gs fl' us' (truthsIn ps gs fl us hd)) x = true := by
    intro i
    induction i with
    | zero =>
      intro _ x hx
      have hx : x ∈ ps.map (·.1) := by simpa using hx
      unfold truthsNow
      rw [tell_part N hx]
      conv => lhs; unfold truthsIn
      rw [tell_part N hx]
      exact fun h => decide_eq_true (h1 x (of_decide_eq_true h))
    | succ i ih =>
      intro hi x hx
      have ih := ih (by omega)
      have hg : gs[i]? = some gs[i] := List.getElem?_eq_getElem (by omega)
      have old : x ∈ ps.map (·.1) ++ (gs.take i).map G.name ∨ x = gs[i].name := by
        rw [List.take_add_one, hg, List.map_append] at hx
        rcases List.mem_append.mp hx with h | h
        · exact .inl (List.mem_append.mpr (.inl h))
        · rcases List.mem_append.mp h with h | h
          · exact .inl (List.mem_append.mpr (.inr h))
          · exact .inr (by simpa using h)
      rcases old with h | rfl
      · exact ih x h
      · have hm : gs[i] ∈ gs := List.getElem_mem _
        have rd := N.rd i _ hg
        have e1 := tell_gate (us := us) (fl := fl) N (local_held hd) hm
        have e2 := tell_gate (us := us') (fl := fl') N (local_now (truthsIn ps gs fl us hd)) hm
        show lookT (tellM _ _ _ _ _) _ = true → lookT (tellM _ _ _ _ _) _ = true
        rw [e1, e2]
        cases eg : gs[i] with
        | all n ins =>
          rw [eg] at rd
          intro h
          refine List.all_eq_true.mpr fun x hx => ih x (rd x hx) (List.all_eq_true.mp h x hx)
        | any n ins =>
          rw [eg] at rd
          intro h
          obtain ⟨x, hx, hh⟩ := List.any_eq_true.mp h
          exact List.any_eq_true.mpr ⟨x, hx, ih x (rd x hx) hh⟩
        | least n m ins =>
          rw [eg] at rd
          intro h
          have h := of_decide_eq_true h
          refine decide_eq_true (Int.le_trans h ?_)
          refine Int.ofNat_le.mpr (count_le fun x hx => ih x (rd x hx))
        | before n x y =>
          rw [eg] at rd hm
          intro h
          have hn : n ∈ hd := of_decide_eq_true h
          obtain ⟨hx, hy⟩ := h3 n x y hm hn
          show came n x y _ _ = true
          have en : lookT (truthsIn ps gs fl us hd) n = true := by
            have := e1
            rw [eg] at this
            exact this.trans h
          have ix : lookT (tellM (bfNow (truthsIn ps gs fl us hd)) fl' us' ps gs) x = true := ih x rd.1 hx
          have iy : lookT (tellM (bfNow (truthsIn ps gs fl us hd)) fl' us' ps gs) y = true := ih y rd.2 hy
          unfold came
          rw [ix, iy, hx, en]
          simp
        | spare n qs =>
          rw [eg] at hm
          intro h
          exact decide_eq_true (h2 n qs hm (of_decide_eq_true h))
  intro x hx
  refine key gs.length (Nat.le_refl _) x ?_
  rw [List.take_length]
  exact hx
/-- behind a mend nothing false becomes true -/
theorem mono_down (N : NmsOk ps gs) {fl fl' : List Str} {us us' : Uses} {hd : List Str} (h1 : ∀ x ∈ fl', x ∈ fl) (h2 : ∀ n qs, G.spare n qs ∈ gs → (getA us' n).getD emptyS = emptyS → (getA us n).getD emptyS = emptyS) :
    ∀ x ∈ ps.map (·.1) ++ gs.map G.name, lookT (truthsNow ps gs fl' us' (truthsIn ps gs fl us hd)) x = true → lookT (truthsIn ps gs fl us hd) x = true := by
  have key : ∀ i, i ≤ gs.length → ∀ x ∈ ps.map (·.1) ++ (gs.take i).map G.name, lookT (truthsNow ps gs fl' us' (truthsIn ps gs fl us hd)) x = true → lookT (truthsIn ps gs fl us hd) x = true := by
    intro i
    induction i with
    | zero =>
      intro _ x hx
      have hx : x ∈ ps.map (·.1) := by simpa using hx
      unfold truthsNow
      rw [tell_part N hx]
      conv => rhs; unfold truthsIn
      rw [tell_part N hx]
      exact fun h => decide_eq_true (h1 x (of_decide_eq_true h))
    | succ i ih =>
      intro hi x hx
      have ih := ih (by omega)
      have hg : gs[i]? = some gs[i] := List.getElem?_eq_getElem (by omega)
      have old : x ∈ ps.map (·.1) ++ (gs.take i).map G.name ∨ x = gs[i].name := by
        rw [List.take_add_one, hg, List.map_append] at hx
        rcases List.mem_append.mp hx with h | h
        · exact .inl (List.mem_append.mpr (.inl h))
        · rcases List.mem_append.mp h with h | h
          · exact .inl (List.mem_append.mpr (.inr h))
          · exact .inr (by simpa using h)
      rcases old with h | rfl
      · exact ih x h
      · have hm : gs[i] ∈ gs := List.getElem_mem _
        have rd := N.rd i _ hg
        have e1 := tell_gate (us := us) (fl := fl) N (local_held hd) hm
        have e2 := tell_gate (us := us') (fl := fl') N (local_now (truthsIn ps gs fl us hd)) hm
        show lookT (tellM _ _ _ _ _) _ = true → lookT (tellM _ _ _ _ _) _ = true
        rw [e1, e2]
        cases eg : gs[i] with
        | all n ins =>
          rw [eg] at rd
          intro h
          refine List.all_eq_true.mpr fun x hx => ih x (rd x hx) (List.all_eq_true.mp h x hx)
        | any n ins =>
          rw [eg] at rd
          intro h
          obtain ⟨x, hx, hh⟩ := List.any_eq_true.mp h
          exact List.any_eq_true.mpr ⟨x, hx, ih x (rd x hx) hh⟩
        | least n m ins =>
          rw [eg] at rd
          intro h
          have h := of_decide_eq_true h
          refine decide_eq_true (Int.le_trans h ?_)
          refine Int.ofNat_le.mpr (count_le fun x hx => ih x (rd x hx))
        | before n x y =>
          rw [eg] at rd hm
          intro h
          have h : came n x y (truthsNow ps gs fl' us' (truthsIn ps gs fl us hd)) (truthsIn ps gs fl us hd) = true := h
          unfold came at h
          simp only [Bool.and_eq_true, Bool.or_eq_true, Bool.not_eq_true'] at h
          obtain ⟨⟨⟨_, hy⟩, _⟩, hz⟩ := h
          have iy := ih y rd.2 hy
          rw [iy] at hz
          have hn : lookT (truthsIn ps gs fl us hd) n = true := hz.elim (fun z => by cases z) id
          have := e1
          rw [eg] at this
          exact this.symm.trans hn
        | spare n qs =>
          rw [eg] at hm
          intro h
          exact decide_eq_true (h2 n qs hm (of_decide_eq_true h))
  intro x hx
  refine key gs.length (Nat.le_refl _) x ?_
  rw [List.take_length]
  exact hx
end
end Kf

set_option Elab.async false
set_option linter.all false
set_option maxRecDepth 100000
set_option maxHeartbeats 2000000
namespace Kf
open PySem PySem.Spec PyProof.Rows L2
/-! ## one step of a run -/
structure FMore (ps : List (Str × Str)) (gs : List G) (ea : Tr) (fl : List Str) (us : Uses) (n : Str) (s : FS) : Prop where
  app : s.failed = fl ++ s.fallen
  ui : UInv gs s.failed s.uses
  keep : ∀ m z, getA us m = some z → z ≠ emptyS → ¬ z ∈ s.failed → getA s.uses m = some z
  stay : ∀ m qs, G.spare m qs ∈ gs → getA us m = some emptyS → getA s.uses m = some emptyS
  pos : (s.fallen = [] ∧ s.line = [n]) ∨ ((∃ r, s.fallen = n :: r) ∧ s.now = truthsNow ps gs s.failed s.uses ea)
section
variable {ps : List (Str × Str)} {gs : List G} {cs : List (Str × List Str)} {tp : Str}
theorem FMore.step {ea : Tr} {fl : List Str} {us : Uses} {n : Str} {s : FS} (nd : (gs.map G.name).Nodup) (hf : Full gs) (h : FMore ps gs ea fl us n s) : FMore ps gs ea fl us n (fstep ps gs cs ea s) := by
  cases e : s.line with
  | nil =>
    have : fstep ps gs cs ea s = s := by unfold fstep; rw [e]
    rw [this]
    exact h
  | cons x r =>
    rw [fstep_cons e]
    obtain ⟨U, R⟩ := UInv.take (fl := s.failed ++ [x]) nd hf (keysNd_of nd h.ui.keys) h.ui.keys h.ui.pool h.ui.dist
    refine ⟨by show s.failed ++ [x] = fl ++ (s.fallen ++ [x]); rw [h.app, List.append_assoc], U, fun m z hz hne hnf => ?_, fun m qs hm he => ?_, .inr ⟨?_, rfl⟩⟩
    · exact R.keep m z (h.keep m z hz hne fun c => hnf (List.mem_append.mpr (.inl c))) hne hnf
    · exact Kf.stay h.ui (fun x hx => List.mem_append.mpr (.inl hx)) hf (keysNd_of nd h.ui.keys) R hm (h.stay m qs hm he)
    · rcases h.pos with ⟨h1, h2⟩ | ⟨⟨r0, h1⟩, _⟩
      · rw [e] at h2
        have hx := (List.cons.inj h2).1
        exact ⟨[], by show s.fallen ++ [x] = _; rw [h1, hx]; rfl⟩
      · exact ⟨r0 ++ [x], by show s.fallen ++ [x] = _; rw [h1]; rfl⟩
theorem FMore.fall {ea : Tr} {fl : List Str} {us : Uses} {n : Str} (nd : (gs.map G.name).Nodup) (hf : Full gs) : ∀ (k : Nat) (s : FS), FMore ps gs ea fl us n s → FMore ps gs ea fl us n (fall ps gs cs ea k s)
  | 0, s, h => h
  | k + 1, s, h => by
    unfold Kf.fall
    split
    · exact h
    · exact FMore.fall nd hf k _ (h.step nd hf)
theorem fall_end {ea : Tr} {us0 : Uses} (N : NmsOk ps gs) (hs : SpareIn us0 gs) (ok : CausesOk (ps.map (·.1)) (ps.map (·.1) ++ gs.map G.name) cs) : ∀ (k : Nat) (s : FS), FInv ps gs us0 s → k = ps.length - s.failed.length → (fall ps gs cs ea k s).line = []
  | 0, s, h, e => by
    have := h.room
    have h0 : s.line.length = 0 := by omega
    exact List.eq_nil_of_length_eq_zero h0
  | k + 1, s, h, e => by
    cases el : s.line with
    | nil => rw [fall_nil el]; exact el
    | cons x r =>
      rw [fall_cons el]
      refine fall_end N hs ok k _ (h.step N hs ok) ?_
      rw [fstep_cons el]
      have := h.room
      rw [el] at this
      simp at this ⊢
      omega
/-- what one event does -/
structure StepF (ps : List (Str × Str)) (gs : List G) (cs : List (Str × List Str)) (tp : Str) (s : St3) (e : Str × Str) : Prop where
  si : SI ps gs cs tp (nextOf ps gs cs s e).1
  left : ∀ m z, getA s.2.1 m = some z → z ≠ emptyS → ¬ z ∈ (nextOf ps gs cs s e).1.1 → getA (nextOf ps gs cs s e).1.2.1 m = some z
  mend : e.1 = "mend" → (nextOf ps gs cs s e).2 = [] ∧ ∀ x ∈ ps.map (·.1) ++ gs.map G.name, lookT (trIn ps gs (nextOf ps gs cs s e).1) x = true → lookT (trIn ps gs s) x = true
  fail : ¬ e.1 = "mend" → (∃ r, (nextOf ps gs cs s e).2 = e.2 :: r) ∧ (nextOf ps gs cs s e).1.1 = srtS (s.1 ++ (nextOf ps gs cs s e).2) ∧ ∀ x ∈ ps.map (·.1) ++ gs.map G.name, lookT (trIn ps gs s) x = true → lookT (trIn ps gs (nextOf ps gs cs s e).1) x = true
theorem mem_srt {x : Str} {l : List Str} : x ∈ srtS l ↔ x ∈ l := (srtS_perm l).mem_iff
theorem UInv.perm {fl fl' : List Str} {us : Uses} (h : UInv gs fl us) (p : ∀ x, x ∈ fl' ↔ x ∈ fl) : UInv gs fl' us := by
  refine ⟨h.dist, h.keys, fun n qs hm => ?_⟩
  obtain ⟨z, h1, h2, h3⟩ := h.sp n qs hm
  exact ⟨z, h1, fun e q hq => (h2 e q hq).imp (fun c => (p q).mpr c) id, fun e => ⟨(h3 e).1, fun c => (h3 e).2 ((p z).mp c)⟩⟩
theorem now_before (N : NmsOk ps gs) {fl : List Str} {us : Uses} {ea : Tr} {n x y : Str} (hm : G.before n x y ∈ gs) (h : lookT (truthsNow ps gs fl us ea) n = true) : lookT (truthsNow ps gs fl us ea) x = true ∧ lookT (truthsNow ps gs fl us ea) y = true := by
  have e2 := tell_gate (us := us) (fl := fl) N (local_now ea) hm
  have h2 : came n x y (truthsNow ps gs fl us ea) ea = true := e2.symm.trans h
  unfold came at h2
  simp only [Bool.and_eq_true] at h2
  exact ⟨h2.1.1.1, h2.1.1.2⟩
theorem held_look (N : NmsOk ps gs) {tr : Tr} {n : Str} (h : n ∈ heldOf gs tr) : lookT tr n = true := by
  obtain ⟨g, h1, h2⟩ := List.mem_map.mp h
  have h3 := (List.mem_filter.mp h1).2
  unfold isHeld at h3
  rw [Bool.and_eq_true] at h3
  rw [← h2]
  exact h3.2
theorem rd_known (N : NmsOk ps gs) {n x y : Str} (hm : G.before n x y ∈ gs) : x ∈ ps.map (·.1) ++ gs.map G.name ∧ y ∈ ps.map (·.1) ++ gs.map G.name := by
  obtain ⟨i, hi⟩ := List.mem_iff_getElem?.mp hm
  have rd := N.rd i _ hi
  have up : ∀ z, z ∈ ps.map (·.1) ++ (gs.take i).map G.name → z ∈ ps.map (·.1) ++ gs.map G.name := fun z hz => by
    rcases List.mem_append.mp hz with h | h
    · exact List.mem_append.mpr (.inl h)
    · obtain ⟨g, hg, rfl⟩ := List.mem_map.mp h
      exact List.mem_append.mpr (.inr (List.mem_map.mpr ⟨g, List.mem_of_mem_take hg, rfl⟩))
  exact ⟨up x rd.1, up y rd.2⟩
theorem getD_iff {us : Uses} {n z : Str} (h : getA us n = some z) : ((getA us n).getD emptyS = emptyS) ↔ z = emptyS := by rw [h]; exact Iff.rfl
theorem step_facts {s : St3} {e : Str × Str} (h : SI ps gs cs tp s) (he : EvOk ps s e) : StepF ps gs cs tp s e := by
  have ok := h.ok
  have N := ok.nms
  have nd := N.gn
  have hf := full_of ok.pl
  obtain ⟨o2, f2⟩ := next_ok ok h.fok he
  obtain ⟨w0, n⟩ := e
  rcases he.ex with ⟨e1, e2⟩ | ⟨e1, e2, e3, _⟩
  · obtain rfl : w0 = "mend" := e1
    obtain ⟨U, R⟩ := UInv.take (fl := mendFl s.1 n) nd hf ok.nd h.ui.keys h.ui.pool h.ui.dist
    have hag := told_again (us := mendUs gs s.1 s.2.1 n) (ea := trIn ps gs s) N fun x => mem_srt (x := x) (l := mendFl s.1 n)
    rw [next_mend] at *
    refine ⟨⟨o2, f2, U.perm fun x => mem_srt, fun m x y hm hh => ?_⟩, fun m z hz hne hnf => ?_, fun _ => ⟨rfl, fun x hx hh => ?_⟩, fun c => absurd rfl c⟩
    · have l1 := held_look N hh
      obtain ⟨k1, k2⟩ := rd_known N hm
      obtain ⟨t1, t2⟩ := now_before N hm l1
      exact ⟨(hag x k1).trans t1, (hag y k2).trans t2⟩
    · exact R.keep m z hz hne fun c => hnf (mem_srt.mpr c)
    · refine mono_down N (fun x hx => (List.mem_filter.mp hx).1) (fun m qs hm c => ?_) x hx ((hag x hx).symm.trans hh)
      obtain ⟨z, g1, _, g3⟩ := h.ui.sp m qs hm
      refine (getD_iff g1).mpr ?_
      by_cases cz : z = emptyS
      · exact cz
      · have k := R.keep m z g1 cz fun c2 => (g3 cz).2 (List.mem_filter.mp c2).1
        have c3 : (getA (takeU (mendFl s.1 n) s.2.1 gs) m).getD emptyS = emptyS := c
        rw [k] at c3
        exact c3
  · obtain rfl : w0 = "fail" := e1
    have I := failEnd_inv (cs := cs) ok h.fok e2 e3
    have M0 : FMore ps gs (trIn ps gs s) s.1 s.2.1 n ⟨[n], s.1, [], s.2.1, trIn ps gs s⟩ := ⟨by simp, h.ui, fun m z hz _ _ => hz, fun m qs _ hz => hz, .inl ⟨rfl, rfl⟩⟩
    have M := M0.fall (cs := cs) nd hf (ps.length - s.1.length)
    have L := fall_end (ea := trIn ps gs s) N ok.sp ok.pl.causes (ps.length - s.1.length) ⟨[n], s.1, [], s.2.1, trIn ps gs s⟩ (start_inv h.fok e2 e3) rfl
    have eF : fall ps gs cs (trIn ps gs s) (ps.length - s.1.length) ⟨[n], s.1, [], s.2.1, trIn ps gs s⟩ = failEnd ps gs cs s.1 s.2.1 s.2.2 n := rfl
    rw [eF] at M L
    obtain ⟨⟨r, hr⟩, hnow⟩ : (∃ r, (failEnd ps gs cs s.1 s.2.1 s.2.2 n).fallen = n :: r) ∧ (failEnd ps gs cs s.1 s.2.1 s.2.2 n).now = truthsNow ps gs (failEnd ps gs cs s.1 s.2.1 s.2.2 n).failed (failEnd ps gs cs s.1 s.2.1 s.2.2 n).uses (trIn ps gs s) := by
      rcases M.pos with ⟨_, c⟩ | c
      · rw [L] at c
        cases c
      · exact c
    have hag := told_again (us := (failEnd ps gs cs s.1 s.2.1 s.2.2 n).uses) (ea := trIn ps gs s) N fun x => mem_srt (x := x) (l := (failEnd ps gs cs s.1 s.2.1 s.2.2 n).failed)
    rw [← hnow] at hag
    rw [next_fail] at *
    refine ⟨⟨o2, f2, M.ui.perm fun x => mem_srt, fun m x y hm hh => ?_⟩, fun m z hz hne hnf => ?_, fun c => absurd c ne_fail_mend, fun _ => ⟨⟨r, hr⟩, ?_, fun x hx hh => ?_⟩⟩
    · have l1 := held_look N hh
      obtain ⟨k1, k2⟩ := rd_known N hm
      rw [hnow] at l1
      obtain ⟨t1, t2⟩ := now_before N hm l1
      rw [← hnow] at t1 t2
      exact ⟨(hag x k1).trans t1, (hag y k2).trans t2⟩
    · exact M.keep m z hz hne fun c => hnf (mem_srt.mpr c)
    · show srtS _ = srtS _
      rw [next_fail, M.app]
    · refine (hag x hx).trans ?_
      rw [hnow]
      refine mono_up N (fun x hx => ?_) (fun m qs hm c => ?_) (fun m x y hm hh => h.hd m x y hm hh) x hx hh
      · rw [M.app]
        exact List.mem_append.mpr (.inl hx)
      · obtain ⟨z, g1, _, _⟩ := h.ui.sp m qs hm
        have cz := (getD_iff g1).mp c
        rw [cz] at g1
        rw [M.stay m qs hm g1]
        rfl
end
end Kf

set_option Elab.async false
set_option linter.all false
set_option maxRecDepth 100000
set_option maxHeartbeats 2000000
namespace Kf
open PySem PySem.Spec PyProof.Rows L2 LamX NdefX TL
/-! ## the law's own defs -/
/-- what an expression has made is locked from then on -/
def tFrz (td : TE) : TE := fun σ H Q => td σ H fun x H1 => ∃ d u, x = .ref d ∧ H1 d = some u ∧ Mut (some u) ∧ ∀ od, Q x (upd H1 d (.frz od u))
theorem pe_frz {X : Cx} {e : Expr} {td : TE} (he : PE X e td) : PE X e (tFrz td) := by
  refine ⟨fun pins s σ H Q I h => ?_⟩
  refine thn (he.run pins s σ H _ I h) fun v s1 ⟨x, H1, I1, r1, d, u, ex, hd, mu, q⟩ => ?_
  obtain ⟨od, I2⟩ := I1.lock hd mu
  exact ⟨x, _, I2, r1, q od⟩
theorem keys_in {bf : G → Tr → Bool} {fl : List Str} {us : Uses} {ps : List (Str × Str)} {gs : List G} {n : Str} (h : n ∈ (tellM bf fl us ps gs).map (·.1)) : n ∈ ps.map (·.1) ++ gs.map G.name := by
  have set_in : ∀ {l : Tr} {m : Str} {b : Bool}, n ∈ (setA l m b).map (·.1) → n ∈ l.map (·.1) ∨ n = m := by
    intro l m b h
    by_cases e : (l.any fun p => decide (p.1 = m)) = true
    · rw [setA_keys e] at h
      exact .inl h
    · unfold setA at h
      rw [if_neg e, List.map_append] at h
      rcases List.mem_append.mp h with h | h
      · exact .inl h
      · exact .inr (by simpa using h)
  have parts : ∀ (l : List (Str × Str)) (tr : Tr), n ∈ (l.foldl (part1 fl) tr).map (·.1) → n ∈ tr.map (·.1) ∨ n ∈ l.map (·.1) := by
    intro l
    induction l with
    | nil => exact fun tr h => .inl h
    | cons p r ih =>
      intro tr h
      rcases ih _ h with h | h
      · rcases set_in h with h | h
        · exact .inl h
        · exact .inr (h ▸ List.mem_cons_self ..)
      · exact .inr (List.mem_cons_of_mem _ h)
  have gates : ∀ (l : List G) (tr : Tr), n ∈ (l.foldl (tell1 bf us) tr).map (·.1) → n ∈ tr.map (·.1) ∨ n ∈ l.map G.name := by
    intro l
    induction l with
    | nil => exact fun tr h => .inl h
    | cons p r ih =>
      intro tr h
      rcases ih _ h with h | h
      · rcases set_in h with h | h
        · exact .inl h
        · exact .inr (h ▸ List.mem_cons_self ..)
      · exact .inr (List.mem_cons_of_mem _ h)
  rcases gates gs _ h with h | h
  · rcases parts ps [] h with h | h
    · cases h
    · exact List.mem_append.mpr (.inl h)
  · exact List.mem_append.mpr (.inr h)
end Kf

set_option Elab.async false
set_option linter.all false
set_option maxRecDepth 100000
set_option maxHeartbeats 2000000
namespace Kf
open PySem PySem.Spec PyProof.Rows L2
/-! ## the law's own account of an event, and the program's -/
theorem getA_none_of {α : Type} {l : List (Str × α)} {n : Str} (h : ¬ KeyIn l n) : getA l n = none := by
  cases e : getA l n with
  | none => rfl
  | some z => exact absurd (getA_any e) h
theorem setA_setA {α : Type} {l : List (Str × α)} {n : Str} {a b : α} (h : KeyIn l n) : setA (setA l n a) n b = setA l n b := by
  have h1 : (l.any fun p => decide (p.1 = n)) = true := h
  have h2 : ((setA l n a).any fun p => decide (p.1 = n)) = true := by rw [any_keys (setA_keys h1)]; exact h1
  unfold setA at h2 ⊢
  rw [if_pos h1] at h2 ⊢
  rw [if_pos h2, if_pos h1, List.map_map]
  refine List.map_congr_left fun p _ => ?_
  simp only [Function.comp]
  by_cases e : p.1 = n <;> simp [e]
theorem seat1_take {fl : List Str} {us : Uses} {g : G} (ku : KeysNd us) (hk : ∀ n ps, g = .spare n ps → KeyIn us n) (hf : ∀ n ps, g = .spare n ps → ∀ p ∈ ps, p ≠ emptyS) : seat1 fl us g = take1 fl us g := by
  cases g with
  | spare n ps =>
    show (if (getA us n).getD emptyS = emptyS ∨ (getA us n).getD emptyS ∈ fl then setA (setA us n emptyS) n ((freeOf fl (setA us n emptyS) ps).headD emptyS) else us) = if (getA us n).getD emptyS = emptyS ∨ (getA us n).getD emptyS ∈ fl then setA us n ((freeOf fl us ps).headD emptyS) else us
    by_cases c : (getA us n).getD emptyS = emptyS ∨ (getA us n).getD emptyS ∈ fl
    · rw [if_pos c, if_pos c, setA_setA (hk n ps rfl)]
      have kin : KeyIn us n := hk n ps rfl
      have h1 : (us.any fun p => decide (p.1 = n)) = true := kin
      congr 2
      unfold freeOf
      refine List.filter_congr fun p hp => ?_
      have pne := hf n ps rfl p hp
      by_cases pf : p ∈ fl
      · simp [pf]
      · have : p ∈ (setA us n emptyS).map (·.2) ↔ p ∈ us.map (·.2) := by
          unfold setA
          rw [if_pos h1]
          constructor
          · intro h
            obtain ⟨q, hq, e⟩ := List.mem_map.mp h
            obtain ⟨q0, hq0, rfl⟩ := List.mem_map.mp hq
            by_cases e1 : q0.1 = n
            · rw [if_pos e1] at e
              exact absurd e.symm pne
            · rw [if_neg e1] at e
              exact List.mem_map.mpr ⟨q0, hq0, e⟩
          · intro h
            obtain ⟨q0, hq0, e⟩ := List.mem_map.mp h
            by_cases e1 : q0.1 = n
            · exfalso
              have g1 : getA us n = some p := getA_of ku (by rw [← e1, ← e]; exact hq0)
              rw [g1] at c
              rcases c with c | c
              · exact pne c
              · exact pf c
            · exact List.mem_map.mpr ⟨q0, List.mem_map.mpr ⟨q0, hq0, if_neg e1⟩, e⟩
        simp only [pf, decide_false, Bool.not_false, Bool.true_and]
        rw [Bool.eq_iff_iff]
        simp [this]
    · rw [if_neg c, if_neg c]
  | _ => rfl
theorem seat_take {fl : List Str} : ∀ (gs : List G) (us : Uses), KeysNd us → SpareIn us gs → Full gs → seatU fl us gs = takeU fl us gs
  | [], us, _, _, _ => rfl
  | g :: gs, us, ku, hs, hf => by
    have e := seat1_take (fl := fl) (g := g) ku (fun n ps e => hs n ps (by rw [e]; exact List.mem_cons_self ..)) (fun n ps e => hf n ps (by rw [e]; exact List.mem_cons_self ..))
    have k1 : (take1 fl us g).map (·.1) = us.map (·.1) := take1_keys (g := g) fun n ps e => hs n ps (by rw [e]; exact List.mem_cons_self ..)
    show seatU fl (seat1 fl us g) gs = takeU fl (take1 fl us g) gs
    rw [e]
    refine seat_take gs _ (by unfold KeysNd; rw [k1]; exact ku) (fun n ps hm => ?_) fun n ps hm => hf n ps (List.mem_cons_of_mem _ hm)
    rw [any_keys k1]
    exact hs n ps (List.mem_cons_of_mem _ hm)
theorem take_mem {fl fl' : List Str} (h : ∀ x, x ∈ fl ↔ x ∈ fl') : ∀ (gs : List G) (us : Uses), takeU fl us gs = takeU fl' us gs
  | [], us => rfl
  | g :: gs, us => by
    have e : take1 fl us g = take1 fl' us g := by
      cases g with
      | spare n ps =>
        have f : freeOf fl us ps = freeOf fl' us ps := List.filter_congr fun p _ => by rw [Bool.eq_iff_iff]; simp [h]
        show (if _ then _ else _) = if _ then _ else _
        simp only [h, f]
      | _ => rfl
    show takeU fl (take1 fl us g) gs = takeU fl' (take1 fl' us g) gs
    rw [e]
    exact take_mem h gs _
theorem parts_mem {fl fl' : List Str} (h : ∀ x, x ∈ fl ↔ x ∈ fl') : ∀ (ps : List (Str × Str)) (tr : Tr), ps.foldl (part1 fl) tr = ps.foldl (part1 fl') tr
  | [], _ => rfl
  | p :: r, tr => by
    have e : part1 fl tr p = part1 fl' tr p := by
      unfold part1
      congr 1
      rw [Bool.eq_iff_iff]
      simp [h]
    rw [List.foldl_cons, List.foldl_cons, e]
    exact parts_mem h r _
theorem tell_mem {bf : G → Tr → Bool} {fl fl' : List Str} {us : Uses} {ps : List (Str × Str)} {gs : List G} (h : ∀ x, x ∈ fl ↔ x ∈ fl') : tellM bf fl us ps gs = tellM bf fl' us ps gs := by
  unfold tellM partsTr
  rw [parts_mem h]
theorem tell_congr {bf bf' : G → Tr → Bool} {us : Uses} : ∀ (gs : List G) (tr : Tr), (∀ n x y, G.before n x y ∈ gs → ∀ tr, bf (.before n x y) tr = bf' (.before n x y) tr) → gs.foldl (tell1 bf us) tr = gs.foldl (tell1 bf' us) tr
  | [], _, _ => rfl
  | g :: r, tr, h => by
    have e : tell1 bf us tr g = tell1 bf' us tr g := by
      unfold tell1
      congr 1
      cases g with
      | before n x y => exact h n x y (List.mem_cons_self ..) tr
      | _ => rfl
    rw [List.foldl_cons, List.foldl_cons, e]
    exact tell_congr r _ fun n x y hm => h n x y (List.mem_cons_of_mem _ hm)
/-- the law's account fits the program's state -/
structure Rel (ps : List (Str × Str)) (gs : List G) (s : St3) (gone : List Str) (sn : List (Str × Int)) (c : Int) : Prop where
  nd : gone.Nodup
  mem : ∀ x, x ∈ gone ↔ x ∈ s.1
  key : ∀ n, KeyIn sn n ↔ lookT (trIn ps gs s) n = true
  le : ∀ n z, getA sn n = some z → z ≤ c
  bef : ∀ n x y, G.before n x y ∈ gs → lookT (trIn ps gs s) x = true → lookT (trIn ps gs s) y = true → lookT (trIn ps gs s) n = decide ((getA sn x).getD c < (getA sn y).getD c)
section
variable {ps : List (Str × Str)} {gs : List G} {cs : List (Str × List Str)} {tp : Str}
theorem Rel.now {s : St3} {gone : List Str} {sn : List (Str × Int)} {c : Int} (R : Rel ps gs s gone sn c) (fl : List Str) (us : Uses) : lawTr fl us sn (c + 1) ps gs = truthsNow ps gs fl us (trIn ps gs s) := by
  refine tell_congr gs _ fun n x y hm tr => ?_
  show (lookT tr x && (lookT tr y && decide ((getA sn x).getD (c + 1) < (getA sn y).getD (c + 1)))) = came n x y tr (trIn ps gs s)
  unfold came
  by_cases ex : lookT (trIn ps gs s) x = true
  · obtain ⟨zx, gx⟩ := getA_of_any ((R.key x).mpr ex)
    have lx := R.le x zx gx
    by_cases ey : lookT (trIn ps gs s) y = true
    · obtain ⟨zy, gy⟩ := getA_of_any ((R.key y).mpr ey)
      have b := R.bef n x y hm ex ey
      rw [ex, ey, b, gx, gy]
      cases lookT tr x <;> cases lookT tr y <;> simp
    · have gy := getA_none_of (fun z => ey ((R.key y).mp z))
      have ey' : lookT (trIn ps gs s) y = false := by simpa using ey
      rw [ex, ey', gx, gy]
      have : decide ((some zx).getD (c + 1) < (none : Option Int).getD (c + 1)) = true := decide_eq_true (by show zx < c + 1; omega)
      rw [this]
      cases lookT tr x <;> cases lookT tr y <;> simp
  · have gx := getA_none_of (fun z => ex ((R.key x).mp z))
    have ex' : lookT (trIn ps gs s) x = false := by simpa using ex
    have : decide ((getA sn x).getD (c + 1) < (getA sn y).getD (c + 1)) = false := by
      rw [gx]
      refine decide_eq_false ?_
      show ¬ c + 1 < _
      cases gy : getA sn y with
      | none => show ¬ c + 1 < c + 1; omega
      | some z =>
        have := R.le y z gy
        show ¬ c + 1 < z
        omega
    rw [this, ex']
    cases lookT tr x <;> cases lookT tr y <;> simp
theorem getA_foldU {v : Str → Int} {m : Str} : ∀ (l : List Str) (acc : List (Str × Int)), getA (l.foldl (fun a n => setA a n (v n)) acc) m = if m ∈ l then some (v m) else getA acc m
  | [], acc => by simp
  | n :: r, acc => by
    rw [List.foldl_cons, getA_foldU r, getA_setA]
    by_cases h1 : m ∈ r
    · simp [h1]
    · by_cases h2 : m = n
      · simp [h1, h2]
      · simp [h1, h2]
theorem getA_since {tr : Tr} {sn : List (Str × Int)} {c : Int} {m : Str} : getA (sinceU tr sn c) m = if lookT tr m = true then some ((getA sn m).getD c) else none := by
  unfold sinceU
  rw [getA_foldU]
  have : m ∈ trueNames tr ↔ lookT tr m = true := by
    unfold trueNames
    rw [List.mem_filter]
    exact ⟨fun h => h.2, fun h => ⟨look_key h, h⟩⟩
  by_cases h : lookT tr m = true
  · rw [if_pos (this.mpr h), if_pos h]
  · rw [if_neg (fun z => h (this.mp z)), if_neg h]
    rfl
/-- behind an event: the account is closed -/
theorem Rel.closed {s s' : St3} {gone gone' : List Str} {sn : List (Str × Int)} {c : Int} (N : NmsOk ps gs) (R : Rel ps gs s gone sn c) (nd : gone'.Nodup) (hm : ∀ x, x ∈ gone' ↔ x ∈ s'.1) (hh : s'.2.2 = heldOf gs (truthsNow ps gs gone' s'.2.1 (trIn ps gs s))) :
    Rel ps gs s' gone' (sinceU (lawTr gone' s'.2.1 sn (c + 1) ps gs) sn (c + 1)) (c + 1) := by
  rw [R.now]
  generalize et : truthsNow ps gs gone' s'.2.1 (trIn ps gs s) = tr at hh
  have known : ∀ x, lookT tr x = true → x ∈ ps.map (·.1) ++ gs.map G.name := fun x h => by
    rw [← et] at h
    exact keys_in (look_key h)
  have known' : ∀ x, lookT (trIn ps gs s') x = true → x ∈ ps.map (·.1) ++ gs.map G.name := fun x h => keys_in (look_key h)
  have same : ∀ x, x ∈ ps.map (·.1) ++ gs.map G.name → lookT (trIn ps gs s') x = lookT tr x := fun x hx => by
    have := told_again N (fl := gone') (fl' := s'.1) (us := s'.2.1) (ea := trIn ps gs s) (fun x => (hm x).symm) x hx
    rw [et, ← hh] at this
    exact this
  have all : ∀ x, lookT (trIn ps gs s') x = true ↔ lookT tr x = true := fun x => ⟨fun h => by rw [← same x (known' x h)]; exact h, fun h => by rw [same x (known x h)]; exact h⟩
  refine ⟨nd, hm, fun n => by rw [since_iff, all], fun n z hz => ?_, fun n x y hg hx hy => ?_⟩
  · rw [getA_since] at hz
    split at hz
    · obtain rfl := Option.some.inj hz
      cases e : getA sn n with
      | none => exact Int.le_refl _
      | some z0 =>
        have := R.le n z0 e
        show z0 ≤ c + 1
        omega
    · cases hz
  · have tx := (all x).mp hx
    have ty := (all y).mp hy
    have en : lookT (trIn ps gs s') n = lookT tr n := same n (List.mem_append.mpr (.inr (List.mem_map.mpr ⟨_, hg, rfl⟩)))
    rw [en, getA_since, getA_since, if_pos tx, if_pos ty]
    have e1 : lawTr gone' s'.2.1 sn (c + 1) ps gs = tr := by rw [R.now, et]
    have lb : LocalB (lawBf s'.2.1 sn (c + 1)) := fun n x y tr tr' h1 h2 => by
      show (lookT tr x && (lookT tr y && _)) = (lookT tr' x && (lookT tr' y && _))
      rw [h1, h2]
    have e2 := tell_gate (bf := lawBf s'.2.1 sn (c + 1)) (us := s'.2.1) (fl := gone') N lb hg
    have e3 : tellM (lawBf s'.2.1 sn (c + 1)) gone' s'.2.1 ps gs = tr := e1
    rw [e3] at e2
    have e4 : lookT tr n = (lookT tr x && (lookT tr y && decide ((getA sn x).getD (c + 1) < (getA sn y).getD (c + 1)))) := e2
    rw [e4, tx, ty]
    rfl
end
end Kf

set_option Elab.async false
set_option linter.all false
set_option maxRecDepth 100000
set_option maxHeartbeats 2000000
namespace Kf
open PySem PySem.Spec PyProof.Rows L2
def joinA (now old : Tr) (gone : List Str) (l : List Str) (c : Str × List Str) : List Str := if (lookT now c.1 && !lookT old c.1) = true then l ++ c.2.filter (fun x => !decide (x ∈ gone) && !decide (x ∈ l)) else l
def joinL (cs : List (Str × List Str)) (now old : Tr) (gone line : List Str) : List Str := cs.foldl (joinA now old gone) line
theorem joinL_eq {now old old' : Tr} {gone line : List Str} (ho : ∀ x, lookT old' x = lookT old x) : ∀ (cs : List (Str × List Str)) (acc : List Str), (∀ c ∈ cs, ∀ x ∈ c.2, lookT now x = decide (x ∈ gone)) → cs.foldl (joinA now old' gone) (line ++ acc) = line ++ cs.foldl (join1 now old line) acc
  | [], acc, _ => rfl
  | c :: r, acc, h => by
    have e : joinA now old' gone (line ++ acc) c = line ++ join1 now old line acc c := by
      unfold joinA join1
      rw [ho]
      by_cases b : (lookT now c.1 && !lookT old c.1) = true
      · rw [if_pos b, if_pos b, ← List.append_assoc]
        congr 1
        refine List.filter_congr fun x hx => ?_
        unfold joinOk
        rw [h c (List.mem_cons_self ..) x hx]
      · rw [if_neg b, if_neg b]
    rw [List.foldl_cons, List.foldl_cons, e]
    exact joinL_eq ho r _ fun c hc => h c (List.mem_cons_of_mem _ hc)
def lstep (ps : List (Str × Str)) (gs : List G) (cs : List (Str × List Str)) (sn : List (Str × Int)) (c : Int) (s : FS) : FS := match s.line with
  | [] => s
  | n :: r => ⟨joinL cs (lawTr (s.failed ++ [n]) (seatU (s.failed ++ [n]) s.uses gs) sn c ps gs) s.now (s.failed ++ [n]) r, s.failed ++ [n], s.fallen ++ [n], seatU (s.failed ++ [n]) s.uses gs, lawTr (s.failed ++ [n]) (seatU (s.failed ++ [n]) s.uses gs) sn c ps gs⟩
def lall (ps : List (Str × Str)) (gs : List G) (cs : List (Str × List Str)) (sn : List (Str × Int)) (c : Int) : Nat → FS → FS
  | 0, s => s
  | k + 1, s => if s.line.isEmpty = true then s else lall ps gs cs sn c k (lstep ps gs cs sn c s)
/-- the law's place in an event, and the program's -/
structure LRel (s t : FS) : Prop where
  line : t.line = s.line
  mem : ∀ x, x ∈ t.failed ↔ x ∈ s.failed
  nd : t.failed.Nodup
  fallen : t.fallen = s.fallen
  uses : t.uses = s.uses
  now : ∀ x, lookT t.now x = lookT s.now x
section
variable {ps : List (Str × Str)} {gs : List G} {cs : List (Str × List Str)} {tp : Str}
theorem LRel.step {s0 : St3} {gone : List Str} {sn : List (Str × Int)} {c : Int} {s t : FS} {us0 : Uses} (N : NmsOk ps gs) (hf : Full gs) (ok : CausesOk (ps.map (·.1)) (ps.map (·.1) ++ gs.map G.name) cs) (R : Rel ps gs s0 gone sn c) (ku : KeysNd us0) (hs : SpareIn us0 gs)
    (I : FInv ps gs us0 s) (h : LRel s t) : LRel (fstep ps gs cs (trIn ps gs s0) s) (lstep ps gs cs sn (c + 1) t) := by
  cases e : s.line with
  | nil =>
    have e1 : fstep ps gs cs (trIn ps gs s0) s = s := by unfold fstep; rw [e]
    have e2 : lstep ps gs cs sn (c + 1) t = t := by unfold lstep; rw [h.line, e]
    rw [e1, e2]
    exact h
  | cons n r =>
    have e1 : fstep ps gs cs (trIn ps gs s0) s = ⟨r ++ joinM cs (truthsNow ps gs (s.failed ++ [n]) (takeU (s.failed ++ [n]) s.uses gs) (trIn ps gs s0)) s.now r, s.failed ++ [n], s.fallen ++ [n], takeU (s.failed ++ [n]) s.uses gs, truthsNow ps gs (s.failed ++ [n]) (takeU (s.failed ++ [n]) s.uses gs) (trIn ps gs s0)⟩ := by unfold fstep; rw [e]
    have e2 : lstep ps gs cs sn (c + 1) t = ⟨joinL cs (lawTr (t.failed ++ [n]) (seatU (t.failed ++ [n]) t.uses gs) sn (c + 1) ps gs) t.now (t.failed ++ [n]) r, t.failed ++ [n], t.fallen ++ [n], seatU (t.failed ++ [n]) t.uses gs, lawTr (t.failed ++ [n]) (seatU (t.failed ++ [n]) t.uses gs) sn (c + 1) ps gs⟩ := by unfold lstep; rw [h.line, e]
    have hm : ∀ x, x ∈ t.failed ++ [n] ↔ x ∈ s.failed ++ [n] := fun x => by simp [h.mem]
    have ku2 : KeysNd s.uses := by unfold KeysNd; rw [I.keys]; exact ku
    have eu : seatU (t.failed ++ [n]) t.uses gs = takeU (s.failed ++ [n]) s.uses gs := by
      rw [h.uses, seat_take gs _ ku2 (spareIn_keys I.keys hs) hf, take_mem hm]
    have et : lawTr (t.failed ++ [n]) (takeU (s.failed ++ [n]) s.uses gs) sn (c + 1) ps gs = truthsNow ps gs (s.failed ++ [n]) (takeU (s.failed ++ [n]) s.uses gs) (trIn ps gs s0) := by
      rw [R.now]
      exact tell_mem hm
    rw [e1, e2, eu, et]
    refine ⟨?_, hm, ?_, by show t.fallen ++ [n] = s.fallen ++ [n]; rw [h.fallen], rfl, fun x => rfl⟩
    · have := joinL_eq (line := r) (gone := t.failed ++ [n]) (now := truthsNow ps gs (s.failed ++ [n]) (takeU (s.failed ++ [n]) s.uses gs) (trIn ps gs s0)) h.now cs [] fun c hc x hx => by
        have hp := ChoiceOk.sub (ok.each c hc).ch x hx
        show lookT (tellM _ _ _ ps gs) x = _
        rw [tell_part N hp, Bool.eq_iff_iff]
        simp [h.mem]
      rw [List.append_nil] at this
      exact this
    · refine List.nodup_append.mpr ⟨h.nd, by simp, fun a ha b hb => ?_⟩
      obtain rfl := List.mem_singleton.mp hb
      intro z
      subst z
      exact I.dis a (by rw [e]; exact List.mem_cons_self ..) ((h.mem a).mp ha)
theorem LRel.all {s0 : St3} {gone : List Str} {sn : List (Str × Int)} {c : Int} {us0 : Uses} (N : NmsOk ps gs) (hf : Full gs) (ok : CausesOk (ps.map (·.1)) (ps.map (·.1) ++ gs.map G.name) cs) (R : Rel ps gs s0 gone sn c) (ku : KeysNd us0) (hs : SpareIn us0 gs) :
    ∀ (k : Nat) (s t : FS), FInv ps gs us0 s → LRel s t → LRel (fall ps gs cs (trIn ps gs s0) k s) (lall ps gs cs sn (c + 1) k t)
  | 0, s, t, _, h => h
  | k + 1, s, t, I, h => by
    unfold fall lall
    rw [h.line]
    split
    · exact h
    · exact LRel.all N hf ok R ku hs k _ _ (I.step N hs ok) (h.step N hf ok R ku hs I)
/-- what was true at first, as the law keeps it -/
def snTr (sn : List (Str × Int)) : Tr := sn.foldl (fun acc p => setA acc p.1 true) []
theorem look_foldT {x : Str} : ∀ (l : List (Str × Int)) (acc : Tr), lookT (l.foldl (fun a p => setA a p.1 true) acc) x = true ↔ (x ∈ l.map (·.1) ∨ lookT acc x = true)
  | [], acc => by simp
  | p :: r, acc => by
    rw [List.foldl_cons, look_foldT r, look_set]
    by_cases e : x = p.1
    · simp [e]
    · simp [e]
theorem look_snTr {sn : List (Str × Int)} {x : Str} : lookT (snTr sn) x = true ↔ KeyIn sn x := by
  unfold snTr KeyIn
  rw [look_foldT, List.any_eq_true]
  constructor
  · rintro (h | h)
    · obtain ⟨p, hp, e⟩ := List.mem_map.mp h
      exact ⟨p, hp, decide_eq_true e⟩
    · cases h
  · rintro ⟨p, hp, e⟩
    exact .inl (List.mem_map.mpr ⟨p, hp, of_decide_eq_true e⟩)
/-- the law's state behind an event: gone, uses -/
def lawFail (ps : List (Str × Str)) (gs : List G) (cs : List (Str × List Str)) (gone : List Str) (us : Uses) (sn : List (Str × Int)) (c : Int) (n : Str) : FS := lall ps gs cs sn (c + 1) (ps.length - gone.length) ⟨[n], gone, [], us, snTr sn⟩
theorem law_fail {s : St3} {gone : List Str} {sn : List (Str × Int)} {c : Int} {n : Str} (h : SI ps gs cs tp s) (he : EvOk ps s ("fail", n)) (R : Rel ps gs s gone sn c) :
    LRel (failEnd ps gs cs s.1 s.2.1 s.2.2 n) (lawFail ps gs cs gone s.2.1 sn c n) ∧ (lawFail ps gs cs gone s.2.1 sn c n).line = [] ∧
    Rel ps gs (nextOf ps gs cs s ("fail", n)).1 (lawFail ps gs cs gone s.2.1 sn c n).failed (sinceU (lawTr (lawFail ps gs cs gone s.2.1 sn c n).failed (lawFail ps gs cs gone s.2.1 sn c n).uses sn (c + 1) ps gs) sn (c + 1)) (c + 1) := by
  have ok := h.ok
  have N := ok.nms
  have nd := N.gn
  have hf := full_of ok.pl
  rcases he.ex with ⟨e1, _⟩ | ⟨_, e2, e3, _⟩
  · exact absurd e1 ne_fail_mend
  have glen : gone.length = s.1.length := by
    have p : gone.Perm s.1 := (List.perm_ext_iff_of_nodup R.nd h.fok.nd).mpr R.mem
    exact p.length_eq
  have I0 := start_inv (us := s.2.1) (hd := s.2.2) (gs := gs) h.fok e2 e3
  have L0 : LRel ⟨[n], s.1, [], s.2.1, trIn ps gs s⟩ ⟨[n], gone, [], s.2.1, snTr sn⟩ := ⟨rfl, R.mem, R.nd, rfl, rfl, fun x => by rw [Bool.eq_iff_iff, look_snTr, R.key]⟩
  have LL : LRel (failEnd ps gs cs s.1 s.2.1 s.2.2 n) (lawFail ps gs cs gone s.2.1 sn c n) := by
    unfold lawFail
    rw [glen]
    exact LRel.all N hf ok.pl.causes R ok.nd ok.sp _ _ _ I0 L0
  have M0 : FMore ps gs (trIn ps gs s) s.1 s.2.1 n ⟨[n], s.1, [], s.2.1, trIn ps gs s⟩ := ⟨by simp, h.ui, fun m z hz _ _ => hz, fun m qs _ hz => hz, .inl ⟨rfl, rfl⟩⟩
  have M := M0.fall (cs := cs) nd hf (ps.length - s.1.length)
  have L := fall_end (ea := trIn ps gs s) N ok.sp ok.pl.causes (ps.length - s.1.length) ⟨[n], s.1, [], s.2.1, trIn ps gs s⟩ I0 rfl
  have eF : fall ps gs cs (trIn ps gs s) (ps.length - s.1.length) ⟨[n], s.1, [], s.2.1, trIn ps gs s⟩ = failEnd ps gs cs s.1 s.2.1 s.2.2 n := rfl
  rw [eF] at M L
  have hnow : (failEnd ps gs cs s.1 s.2.1 s.2.2 n).now = truthsNow ps gs (failEnd ps gs cs s.1 s.2.1 s.2.2 n).failed (failEnd ps gs cs s.1 s.2.1 s.2.2 n).uses (trIn ps gs s) := by
    rcases M.pos with ⟨_, h2⟩ | ⟨_, h2⟩
    · rw [L] at h2
      cases h2
    · exact h2
  refine ⟨LL, LL.line.trans L, ?_⟩
  have en : nextOf ps gs cs s ("fail", n) = ((srtS (failEnd ps gs cs s.1 s.2.1 s.2.2 n).failed, (failEnd ps gs cs s.1 s.2.1 s.2.2 n).uses, heldOf gs (failEnd ps gs cs s.1 s.2.1 s.2.2 n).now), (failEnd ps gs cs s.1 s.2.1 s.2.2 n).fallen) := if_neg ne_fail_mend
  rw [en, LL.uses]
  refine R.closed (s' := (srtS (failEnd ps gs cs s.1 s.2.1 s.2.2 n).failed, (failEnd ps gs cs s.1 s.2.1 s.2.2 n).uses, heldOf gs (failEnd ps gs cs s.1 s.2.1 s.2.2 n).now)) N LL.nd (fun x => by rw [LL.mem]; exact mem_srt.symm) ?_
  show heldOf gs _ = heldOf gs _
  rw [hnow]
  congr 1
  exact (tell_mem LL.mem).symm
theorem law_mend {s : St3} {gone : List Str} {sn : List (Str × Int)} {c : Int} {n : Str} (h : SI ps gs cs tp s) (R : Rel ps gs s gone sn c) (hn : n ∈ gone) :
    seatU (gone.erase n) s.2.1 gs = (nextOf ps gs cs s ("mend", n)).1.2.1 ∧ Rel ps gs (nextOf ps gs cs s ("mend", n)).1 (gone.erase n) (sinceU (lawTr (gone.erase n) (nextOf ps gs cs s ("mend", n)).1.2.1 sn (c + 1) ps gs) sn (c + 1)) (c + 1) := by
  have ok := h.ok
  have N := ok.nms
  have hf := full_of ok.pl
  have hm : ∀ x, x ∈ gone.erase n ↔ x ∈ mendFl s.1 n := fun x => by
    rw [R.nd.mem_erase_iff]
    unfold mendFl
    rw [List.mem_filter, R.mem]
    simp
    exact and_comm
  have en : nextOf ps gs cs s ("mend", n) = ((srtS (mendFl s.1 n), mendUs gs s.1 s.2.1 n, heldOf gs (mendTr ps gs s.1 s.2.1 s.2.2 n)), []) := if_pos rfl
  rw [en]
  refine ⟨?_, ?_⟩
  · rw [seat_take gs _ ok.nd ok.sp hf]
    exact take_mem hm gs _
  · refine R.closed (s' := (srtS (mendFl s.1 n), mendUs gs s.1 s.2.1 n, heldOf gs (mendTr ps gs s.1 s.2.1 s.2.2 n))) N (R.nd.erase n) (fun x => by rw [hm]; exact mem_srt.symm) ?_
    show heldOf gs _ = heldOf gs _
    congr 1
    exact (tell_mem hm).symm
end
end Kf

set_option Elab.async false
set_option linter.all false
set_option maxRecDepth 100000
set_option maxHeartbeats 2000000
namespace Kf
open PySem PySem.Spec PyProof.Rows L2
/-! ### sorted lists of different things are one -/
theorem sort_perm {β : Type} {k : β → PyData} (inj : ∀ a b, PySem.W.keyToks (k a) = PySem.W.keyToks (k b) → a = b) {l l' : List β} (p : l.Perm l') : l.mergeSort (PySem.W.dataLe false k) = l'.mergeSort (PySem.W.dataLe false k) := by
  have T := PySem.W.sortLe_total (PyProof.Rows.listOrd PyProof.Rows.itemOrd) false fun b => PySem.W.keyToks (k b)
  refine PySem.W.Srt.the_of_perm (PySem.W.dataLe false k) T.trans (fun x y => by rw [Bool.or_eq_true]; exact T.total x y) (fun x y h1 h2 => ?_) ((List.mergeSort_perm l _).trans p) (List.pairwise_mergeSort T.trans (fun x y => by rw [Bool.or_eq_true]; exact T.total x y) l)
  refine inj x y ?_
  have e1 : (!(PyProof.Rows.listOrd PyProof.Rows.itemOrd).blt (PySem.W.keyToks (k y)) (PySem.W.keyToks (k x))) = true := h1
  have e2 : (!(PyProof.Rows.listOrd PyProof.Rows.itemOrd).blt (PySem.W.keyToks (k x)) (PySem.W.keyToks (k y))) = true := h2
  rw [Bool.not_eq_true'] at e1 e2
  exact (PyProof.Rows.listOrd PyProof.Rows.itemOrd).total _ _ e2 e1
theorem inj_str (a b : Str) (h : PySem.W.keyToks (.str a) = PySem.W.keyToks (.str b)) : a = b := by
  simp only [PySem.W.keyToks] at h
  exact PySem.W.str_of_cps (Sum.inr.inj (List.cons.inj h).1)
theorem inj_part (a b : Str × Str) (h : PySem.W.keyToks (partD a) = PySem.W.keyToks (partD b)) : a = b := by
  obtain ⟨a1, a2⟩ := a
  obtain ⟨b1, b2⟩ := b
  simp only [partD, PySem.W.keyToks, PySem.W.keyToksAll, List.cons_append, List.nil_append] at h
  have e1 := (List.cons.inj h).2
  have e2 := Sum.inr.inj (List.cons.inj e1).1
  have e3 := (List.cons.inj (List.cons.inj e1).2).2
  have e4 := Sum.inr.inj (List.cons.inj e3).1
  rw [PySem.W.str_of_cps e2, PySem.W.str_of_cps e4]
theorem srtS_eq {l l' : List Str} (p : l.Perm l') : srtS l = srtS l' := sort_perm inj_str p
theorem srtP_eq {l l' : List (Str × Str)} (p : l.Perm l') : srtP l = srtP l' := sort_perm inj_part p
theorem srtS_srtS (l : List Str) : srtS (srtS l) = srtS l := srtS_eq (srtS_perm l)
section
variable {ps : List (Str × Str)} {gs : List G} {cs : List (Str × List Str)} {tp : Str}
/-- what can happen, by the law's account -/
theorem Rel.can {s : St3} {gone : List Str} {sn : List (Str × Int)} {c : Int} (h : SI ps gs cs tp s) (R : Rel ps gs s gone sn c) : srtP (eventsOf ps gone s.2.1) = eventsIn ps s.1 s.2.1 := by
  have p : gone.Perm s.1 := (List.perm_ext_iff_of_nodup R.nd h.fok.nd).mpr R.mem
  refine srtP_eq ?_
  unfold eventsOf
  refine List.Perm.append (p.map _) ?_
  have : ps.filter (failable gone s.2.1) = ps.filter (failable s.1 s.2.1) := List.filter_congr fun q _ => by
    unfold failable
    congr 1
    rw [Bool.eq_iff_iff]
    simp [R.mem]
  rw [this]
theorem Rel.first (h : PlantOk ps gs cs tp) : Rel ps gs (st0 gs) [] (since0 ps gs) 0 := by
  have gp : GP (ps.map (·.1)) gs := h.gates.each
  have N := nmsOk_of gp
  have eF : seat0 gs = firstU gs := first_eq N.gn (full_of h)
  have e0 : bfHeld [] = noBefore := by
    funext g tr
    simp [bfHeld, noBefore]
  have et : trIn ps gs (st0 gs) = tellM noBefore [] (firstU gs) ps gs := by
    show tellM (bfHeld []) [] (firstU gs) ps gs = _
    rw [e0]
  have es : since0 ps gs = sinceU (tellM noBefore [] (firstU gs) ps gs) [] 0 := by
    unfold since0
    rw [eF, lawTr_eq]
  refine ⟨List.nodup_nil, fun x => Iff.rfl, fun n => by rw [es, since_iff, et], fun n z hz => ?_, fun n x y hm _ _ => ?_⟩
  · rw [es, getA_since] at hz
    split at hz
    · exact Int.le_of_eq (Option.some.inj hz).symm
    · cases hz
  · have g0 : ∀ m, (getA (since0 ps gs) m).getD 0 = 0 := fun m => by
      rw [es, getA_since]
      split <;> rfl
    have e2 := tell_gate (bf := noBefore) (us := firstU gs) (fl := []) N local_no hm
    have e3 : lookT (tellM noBefore [] (firstU gs) ps gs) n = false := e2
    rw [et, e3, g0, g0]
    rfl
end
end Kf

set_option Elab.async false
set_option linter.all false
set_option maxRecDepth 100000
set_option maxHeartbeats 2000000
namespace Kf
open PySem PySem.Spec PyProof.Rows L2
/-! ### list.remove of a text -/
def eqs (k : Str) (v : Value) : Bool := match v with
  | .str n _ => n == k
  | _ => false
theorem eqs_gives {k : Str} {t : Tok} : ∀ {us : List Value} {xs : List Str}, Vals (sV xs) us → ∀ y ∈ us, MeetsSeq.EqGives y (.str k t) (eqs k y)
  | [], _, _ => fun y hy => by cases hy
  | u :: us, [], h => by cases h
  | u :: us, x :: xs, .cons ⟨t', e⟩ r => fun y hy => by
    subst e
    rcases List.mem_cons.mp hy with e | e
    · rw [e]
      show MeetsSeq.EqGives _ _ (x == k)
      have h := SeqRoads2.EqGives.str x k t' t
      have hb : (x.cps.toList == k.cps.toList) = (x == k) := by
        rw [Bool.eq_iff_iff, beq_iff_eq, beq_iff_eq]
        exact ⟨fun h => PySem.W.str_of_cps h, fun h => by rw [h]⟩
      rw [hb] at h
      exact h
    · exact eqs_gives r y e
theorem erase_mapS : ∀ (l : List Str) (j : Nat), (sV l).eraseIdx j = sV (l.eraseIdx j)
  | [], j => by simp [sV]
  | a :: r, 0 => by simp [sV]
  | a :: r, j + 1 => by
    have ih := erase_mapS r j
    simp [sV] at ih ⊢
    exact ih
section
variable {X : Cx}
def rRemS : V → List V → Hp → VK → Prop := fun x xs H Q => ∃ (l : Addr) (ns : List Str) (k : Str), x = .ref l ∧ xs = [.str k] ∧ H l = some (.lst (sV ns)) ∧ k ∈ ns ∧ Q .non (upd H l (.lst (sV (ns.erase k))))
theorem mt_removeS : MtM X "list.remove" rRemS := by
  intro pins s σ H x xs v us Q I rx rxs h
  obtain ⟨l, ns, k, rfl, rfl, hH, hk, q⟩ := h
  cases rx
  obtain ⟨u, rfl, ru⟩ := rxs.one
  obtain ⟨t, rfl⟩ := ru
  obtain ⟨z, its, n, r, hl, e⟩ := I.lstM hH
  have el : (sV ns).length = ns.length := List.length_map ..
  rw [el] at hl z
  obtain ⟨j, hj⟩ : ∃ j, j = ns.idxOf k := ⟨_, rfl⟩
  have hjn : j < ns.length := by rw [hj]; exact List.idxOf_lt_length_of_mem hk
  have hjl : j < its.toArray.size := by rw [List.size_toArray]; omega
  have at_ : ∀ (m : Nat) (h1 : m < ns.length) (h2 : m < its.length), ∃ t, its[m] = .str ns[m] t := fun m h1 h2 => by
    have e1 : (sV ns)[m]? = some (.str ns[m]) := by simp [sV, h1]
    obtain ⟨u, e2, e3⟩ := r.get e1
    obtain ⟨h3, e4⟩ := List.getElem?_eq_some_iff.mp e2
    obtain ⟨t, e5⟩ := e3
    exact ⟨t, e4.trans e5⟩
  refine call_meets PySem.F.slot_list_remove ⟨_, e, rfl⟩ PySem.F.entry_list_remove (PySem.F.args_list_remove_2 _ _)
    (MeetsSeq.list_remove l its.toArray n (.str k t) (eqs k) (fun y hy => eqs_gives r y (by simpa using hy)) j hjl ?_ ?_ (by rw [List.size_toArray]; omega)) ⟨e, ?_⟩
  · obtain ⟨tj, e1⟩ := at_ j hjn (by simpa using hjl)
    have e2 : its.toArray[j] = .str ns[j] tj := by simpa using e1
    have e3 : ns[j] = k := by subst hj; exact List.getElem_idxOf hjn
    rw [e2]
    show (ns[j] == k) = true
    rw [e3]
    exact beq_self_eq_true k
  · intro m hm hmj
    have hmn : m < ns.length := by omega
    obtain ⟨tm, e1⟩ := at_ m hmn (by simpa using hm)
    have e2 : its.toArray[m] = .str ns[m] tm := by simpa using e1
    rw [e2]
    show (ns[m] == k) = false
    refine beq_eq_false_iff_ne.mpr fun e3 => ?_
    have h1 : m < ns.findIdx (fun x => x == k) := by
      have : ns.idxOf k = ns.findIdx (fun x => x == k) := rfl
      omega
    have h2 := List.not_of_lt_findIdx h1
    simp [e3] at h2
  · have rr := r.eraseIdx j
    rw [erase_mapS] at rr
    have ee : ns.erase k = ns.eraseIdx j := by rw [hj]; exact List.erase_eq_eraseIdx_of_idxOf rfl
    refine ⟨.non, _, I.lset (its' := its.eraseIdx j) (t' := s.toks) hH e ?_ rr ?_, rfl, by rw [← ee]; exact q⟩
    · show its.toArray.eraseIdxIfInBounds j = (its.eraseIdx j).toArray
      rw [List.eraseIdxIfInBounds_toArray]
    · have z2 := List.length_eraseIdx_le ns j
      simp [sV]
      omega
end
end Kf

set_option Elab.async false
set_option linter.all false
set_option maxRecDepth 100000
set_option maxHeartbeats 2000000
namespace Kf
open PySem PySem.Spec PyProof.Rows L2 LamX NdefX TL
/-! ## an event, by the law's own account -/
/-- all but the account's three things stays -/
def Kw (ww g u : Addr) (H H' : Hp) : Prop := ∀ b o, H b = some o → b ≠ ww → b ≠ g → b ≠ u → H' b = some o
section
variable {K : PySem.W.Frag} {ww g u s l : Addr} {H H1 H' : Hp} {c : Int} {fl : List Str} {us : Uses} {sn : List (Str × Int)}
theorem Same.kw (s : Same H H') : Kw ww g u H H' := fun b o h _ _ _ => s b o h
theorem Kw.trans (a : Kw ww g u H H1) (b : Kw ww g u H1 H') : Kw ww g u H H' := fun x o h n1 n2 n3 => b x o (a x o h n1 n2 n3) n1 n2 n3
theorem Kw.ku (a : Ku u H H') : Kw ww g u H H' := fun x o h _ _ n => a x o h n
theorem Kw.kww (a : Ku ww H H') : Kw ww g u H H' := fun x o h n _ _ => a x o h n
theorem Kw.at_ {o : HO} (h : l = ww ∨ l = g ∨ l = u) : Kw ww g u H (upd H l o) := fun x o' e n1 n2 n3 => by
  rw [upd_ne (fun z => by subst z; rcases h with h | h | h <;> contradiction)]
  exact e
/-- a thing that is new since H is written -/
theorem Kw.new {o : HO} (k : Kw ww g u H H') (n : H l = none) : Kw ww g u H (upd H' l o) := fun x o' e n1 n2 n3 => by
  rw [upd_ne (ne_of_none e n)]
  exact k x o' e n1 n2 n3
theorem Kw.kt (k : Kw ww g u H H') (W : WAt H ww g u s c fl us sn) : KT K H H' := by
  intro a xs h
  rcases h with (h | ⟨o, h⟩) | h
  · exact .inl (.inl (k _ _ h (ne_of h W.hw (by intro z; cases z)) (ne_of h W.hg (by intro z; cases z)) (ne_of h W.hu (by intro z; cases z))))
  · exact .inl (.inr ⟨o, k _ _ h (ne_of h W.hw (by intro z; cases z)) (ne_of h W.hg (by intro z; cases z)) (ne_of h W.hu (by intro z; cases z))⟩)
  · exact .inr h
/-- a list besides -/
theorem WAt.lset {xs ys : List V} (W : WAt H ww g u s c fl us sn) (h : H l = some (.lst xs)) (n : l ≠ g) : WAt (upd H l (.lst ys)) ww g u s c fl us sn :=
  ⟨by rw [upd_ne (ne_of W.hw h (by intro z; cases z))]; exact W.hw, by rw [upd_ne n.symm]; exact W.hg, by rw [upd_ne (ne_of W.hu h (by intro z; cases z))]; exact W.hu, by rw [upd_ne (ne_of W.hs h (by intro z; cases z))]; exact W.hs, W.wu, W.su⟩
theorem WAt.gset {fl' : List Str} (W : WAt H ww g u s c fl us sn) : WAt (upd H g (.lst (sV fl'))) ww g u s c fl' us sn :=
  ⟨by rw [upd_ne (ne_of W.hw W.hg (by intro z; cases z))]; exact W.hw, upd_same, by rw [upd_ne (ne_of W.hu W.hg (by intro z; cases z))]; exact W.hu, by rw [upd_ne (ne_of W.hs W.hg (by intro z; cases z))]; exact W.hs, W.wu, W.su⟩
theorem WAt.cset {c' : Int} (W : WAt H ww g u s c fl us sn) (n : ww ≠ s) : WAt (upd H ww (.dK (wkv g u s c'))) ww g u s c' fl us sn :=
  ⟨upd_same, by rw [upd_ne (ne_of W.hg W.hw (by intro z; cases z))]; exact W.hg, by rw [upd_ne W.wu.symm]; exact W.hu, by rw [upd_ne n.symm]; exact W.hs, W.wu, W.su⟩
end
theorem wk_putc {g u s : Addr} {c c' : Int} : putK (wkv g u s c) (.inr "count") (.int c') = wkv g u s c' := by with_unfolding_all rfl
/-- the plant's data, away from the account -/
structure MWt (K : PySem.W.Frag) (H : Hp) (m ww g u : Addr) (ps : List (Str × Str)) (cs : List (Str × List Str)) (gs : List G) (tp : Str) : Prop where
  ex : ∃ kvs pa ca ga xs zs ys, H m = some (.dK kvs) ∧ valV kvs (.inr "parts") = some (.ref pa) ∧ valV kvs (.inr "causes") = some (.ref ca) ∧ valV kvs (.inr "gates") = some (.ref ga) ∧ valV kvs (.inr "top") = some (.str tp) ∧
    H pa = some (.lst xs) ∧ Each (PartAt K H) xs ps ∧ H ca = some (.lst zs) ∧ Each (CauseAt K H) zs cs ∧ H ga = some (.lst ys) ∧ Each (GateAt K H) ys gs ∧ m ≠ ww ∧ m ≠ u ∧ pa ≠ g ∧ ca ≠ g ∧ ga ≠ g
theorem MWt.kw {K : PySem.W.Frag} {H H' : Hp} {m ww g u s : Addr} {c : Int} {fl : List Str} {us : Uses} {sn : List (Str × Int)} {ps : List (Str × Str)} {cs : List (Str × List Str)} {gs : List G} {tp : Str} (h : MWt K H m ww g u ps cs gs tp) (k : Kw ww g u H H') (W : WAt H ww g u s c fl us sn) : MWt K H' m ww g u ps cs gs tp := by
  obtain ⟨kvs, pa, ca, ga, xs, zs, ys, hm, v1, v2, v3, v4, h1, e1, h2, e2, h3, e3, n1, n2, n3, n4, n5⟩ := h.ex
  have kt := k.kt (K := K) W
  have L : ∀ {b : Addr} {zs : List V}, H b = some (.lst zs) → b ≠ g → H' b = some (.lst zs) := fun e n => k _ _ e (ne_of e W.hw (by intro z; cases z)) n (ne_of e W.hu (by intro z; cases z))
  exact ⟨kvs, pa, ca, ga, xs, zs, ys, k _ _ hm n1 (ne_of hm W.hg (by intro z; cases z)) n2, v1, v2, v3, v4, L h1 n3, e1.imp fun _ _ r => PartAt.kt kt r, L h2 n4, e2.imp fun _ _ r => CauseAt.kt kt r, L h3 n5, e3.imp fun _ _ r => GateAt.kt kt r, n1, n2, n3, n4, n5⟩
theorem same_lock {H3 H4 : Hp} {a : Addr} {u : HO} {od : Obj} (h : H3 a = some u) (s : Same (upd H3 a (.frz od u)) H4) : Same H3 (upd H4 a u) := fun b o e => by
  by_cases z : b = a
  · subst z
    rw [upd_same, ← h, e]
  · rw [upd_ne z]
    exact s b o (by rw [upd_ne z]; exact e)
theorem since_le {tr : Tr} {sn : List (Str × Int)} {c : Int} : (sinceU tr sn c).length ≤ tr.length := by
  have h1 := fold_le (f := fun (acc : List (Str × Int)) n => setA acc n ((getA sn n).getD c)) (fun b x => setA_le ..) (trueNames tr) []
  have h2 : (trueNames tr).length ≤ tr.length := by
    unfold trueNames
    have : ((tr.map (·.1)).filter (lookT tr)).length ≤ (tr.map (·.1)).length := List.length_filter_le ..
    rwa [List.length_map] at this
  unfold sinceU
  simp only [List.length_nil] at h1
  omega
/-- the loop of a failure, by the law's account -/
structure LV (ps : List (Str × Str)) (gs : List G) (cs : List (Str × List Str)) (us0 : Uses) (sn : List (Str × Int)) (c : Int) (H0 : Hp) (ww g u sA l fa : Addr) (R t : FS) (o : Addr) (H : Hp) : Prop where
  kw : Kw ww g u H0 H
  W : WAt H ww g u sA c t.failed t.uses sn
  hl : H l = some (.lst (sV t.line))
  hf : H fa = some (.lst (sV t.fallen))
  ho : H o = some (.dK (dS V.bl t.now))
  n1 : l ≠ fa
  n2 : l ≠ g
  n3 : fa ≠ g
  nl : H0 l = none
  nf : H0 fa = none
  ou : o ≠ u
  keys : t.uses.map (·.1) = us0.map (·.1)
  pos : t.line = [] ∨ ∃ s, FInv ps gs us0 s ∧ LRel s t
  run : lall ps gs cs sn c (ps.length - t.failed.length) t = R
  fal : t.fallen.length ≤ t.failed.length
  fle : t.failed.length ≤ ps.length
theorem LV.same {ps : List (Str × Str)} {gs : List G} {cs : List (Str × List Str)} {us0 : Uses} {sn : List (Str × Int)} {c : Int} {H0 H H' : Hp} {ww g u sA l fa o : Addr} {R t : FS} (I : LV ps gs cs us0 sn c H0 ww g u sA l fa R t o H) (s : Same H H') : LV ps gs cs us0 sn c H0 ww g u sA l fa R t o H' :=
  ⟨I.kw.trans (Same.kw s), I.W.same s, s _ _ I.hl, s _ _ I.hf, s _ _ I.ho, I.n1, I.n2, I.n3, I.nl, I.nf, I.ou, I.keys, I.pos, I.run, I.fal, I.fle⟩
section
variable {P : Program} {w : World} {K : PySem.W.Frag} {mg : Str → Option Value} {base : Heap}
def spEvent (K : PySem.W.Frag) : Sp := fun vs H Q _ => ∃ m ww ev e ps cs gs tp st g u s c gone sn, vs = [.ref m, .ref ww, ev] ∧ MWt K H m ww g u ps cs gs tp ∧ WAt H ww g u s c gone st.2.1 sn ∧ ww ≠ s ∧ PartAt K H ev e ∧ SI ps gs cs tp st ∧ EvOk ps st e ∧ Rel ps gs st gone sn c ∧ sn.length ≤ 1000 ∧
  ∀ H' p s2 gone' sn', Kw ww g u H H' → WAt H' ww g u s2 (c + 1) gone' (nextOf ps gs cs st e).1.2.1 sn' → ww ≠ s2 → H s2 = none → Rel ps gs (nextOf ps gs cs st e).1 gone' sn' (c + 1) → sn'.length ≤ 1000 → SqT K H' p (sV (nextOf ps gs cs st e).2) → Q (.ref p) H'
theorem ok_law_event {f : Addr} {fd : FuncData} (F : L2.Fun K "_law_event" "_law_event" s__law_event f fd) (T : Nm mg) (C__law_seat : Cal P w K mg base 1 "_law_seat" ["m", "w"] (spSeat K)) (C__law_truths : Cal P w K mg base 2 "_law_truths" ["m", "w"] (spLawTruths K)) (C__law_closed : Cal P w K mg base 3 "_law_closed" ["m", "w"] (spClosed K)) : FnOk P w K mg base CX0 4 f fd ["m", "w", "deed"] (spEvent K) := by
  refine F.ok sc__law_event (fun vs H Q E h => ?_) (fun cdv A outer s H vs Q E hr h => ?_)
  · obtain ⟨m, ww, ev, e, ps, cs, gs, tp, st, g, u, s, c, gone, sn, rfl, _⟩ := h
    rfl
  · obtain ⟨m, ww, ev, e, ps, cs, gs, tp, st, g, u, sA, c, gone, sn, rfl, hM, W, wsn, hev, si, eok, R, snl, q⟩ := h
    have hu := hu_of hr
    have hu64 := hr.units
    refine ⟨_, (pss_cons (ps_dput hu (pv 1) pe_str (pe_op op_add (pe_dget hu (pv 1) pe_str (fun _ _ => rfl)) pe_int) rfl)
 (pss_cons (ps_asg (pe_tup (pa_cons (pe_lst (pa_cons (pe_ix (ix_sqK (K := K) rfl) (pv 2) pe_int (fun _ _ => rfl)) pa_nil)) (pa_cons (pe_lst pa_nil) (pa_cons (pe_callTy (call_dictP rfl) (by rfl) T.n_dict (by decide +kernel) (pa_cons (pe_lock (pe_lc (own := [("name", 9)]) (g := gName 9) (by rfl) sc__law_event.nd (pi_keys (pe_dget hu (pv 1) pe_str (fun _ _ => rfl))) (blkOk_by (own := [("name", 9)]) (N := ["m", "w", "deed", "line", "found", "old", "now", "trigger", "pieces", "name", "part"]) (sc := defScope s__law_event) (by decide +kernel)) (fun _ _ _ _ _ => pg_name (i := 9) sc__law_event.nd rfl (.inl rfl)) (fun _ _ _ _ _ => pts_nil) (fun _ _ _ _ _ => (pe_tup (pa_cons (pv 9) (pa_cons pe_bl pa_nil)))))) pa_nil)) pa_nil)))) (pg_tupK (K := K) (n := 3) rfl rfl (pgs_cons (pg_name (i := 3) sc__law_event.nd rfl (.inr rfl)) (pgs_cons (pg_name (i := 4) sc__law_event.nd rfl (.inl rfl)) (pgs_cons (pg_name (i := 5) sc__law_event.nd rfl (.inl rfl)) pgs_nil)))))
 (pss_cons (ps_if (pt_cmpR op_eq (pe_ix (ix_sqK (K := K) rfl) (pv 2) pe_int (fun _ _ => rfl)) pe_str (nomark _))
 (pss_cons (ps_expr (pe_bm PySem.F.plainAttrs_list PySem.F.slot_list_remove PySem.F.type_list_remove mt_removeS (pe_dget hu (pv 1) pe_str (fun _ _ => rfl)) (pa_cons (pe_ix (ix_sqK (K := K) rfl) (pv 2) pe_int (fun _ _ => rfl)) pa_nil)))
 (pss_cons (ps_set (i := 3) sc__law_event.nd rfl (.inr rfl) (pe_lst pa_nil))
 (pss_one (ps_expr (pe_cal C__law_seat (by decide) hr (by rfl) (pa_cons (pv 0) (pa_cons (pv 1) pa_nil)))))))
 pss_nil)
 (pss_cons (ps_while PassesOwn.never (pt_cmpR (op_neD hu64) (pv 3) (pe_lst pa_nil) (nomark _)) (pss_cons (ps_expr (pe_bm PySem.F.plainAttrs_list PySem.F.slot_list_append PySem.F.type_list_append mt_append (pv 4) (pa_cons (pe_bm PySem.F.plainAttrs_list PySem.F.slot_list_pop PySem.F.type_list_pop mt_popAt (pv 3) (pa_cons pe_int pa_nil)) pa_nil)))
 (pss_cons (ps_expr (pe_bm PySem.F.plainAttrs_list PySem.F.slot_list_append PySem.F.type_list_append mt_append (pe_dget hu (pv 1) pe_str (fun _ _ => rfl)) (pa_cons (pe_ix ix_list (pv 4) (pe_un un_neg pe_int) (fun _ _ => rfl)) pa_nil)))
 (pss_cons (ps_expr (pe_cal C__law_seat (by decide) hr (by rfl) (pa_cons (pv 0) (pa_cons (pv 1) pa_nil))))
 (pss_cons (ps_set (i := 6) sc__law_event.nd rfl (.inl rfl) (pe_cal C__law_truths (by decide) hr (by rfl) (pa_cons (pv 0) (pa_cons (pv 1) pa_nil))))
 (pss_cons (ps_for PassesOwn.never rfl (pi_sq (pe_dget hu (pv 0) pe_str (fun _ _ => rfl))) (pg_tupK (K := K) (n := 2) rfl rfl (pgs_cons (pg_name (i := 7) sc__law_event.nd rfl (.inl rfl)) (pgs_cons (pg_name (i := 8) sc__law_event.nd rfl (.inl rfl)) pgs_nil)))
 (pss_one (ps_if (PW.pt (pw_and (pt_val (pe_dget hu (pv 6) (pv 7) (fun _ _ => rfl))) (pw_and1 (pt_not (pt_val (pe_dget2 hu (pv 5) (pv 7) pe_bl ⟨rfl, rfl, rfl, rfl⟩))))))
 (pss_one (ps_expr (pe_bm PySem.F.plainAttrs_list PySem.F.slot_list_extend PySem.F.type_list_extend mt_extend (pv 3) (pa_cons (pe_lc (own := [("part", 10)]) (g := gName 10) (by rfl) sc__law_event.nd (pi_sq (pv 8)) (blkOk_by (own := [("part", 10)]) (N := ["m", "w", "deed", "line", "found", "old", "now", "trigger", "pieces", "name", "part"]) (sc := defScope s__law_event) (by decide +kernel)) (fun _ _ _ _ _ => pg_name (i := 10) sc__law_event.nd rfl (.inl rfl)) (fun _ _ _ _ _ => pts_one (PW.pt (pw_and (pt_cmpR (op_notInK (K := K) rfl) (pv 10) (pe_dget hu (pv 1) pe_str (fun _ _ => rfl)) (by with_unfolding_all rfl)) (pw_and1 (pt_cmpR (op_notInK (K := K) rfl) (pv 10) (pv 3) (by with_unfolding_all rfl)))))) (fun _ _ _ _ _ => (pv 10))) pa_nil))))
 pss_nil)))
 (pss_one (ps_set (i := 5) sc__law_event.nd rfl (.inl rfl) (pv 6)))))))))
 (pss_cons (ps_expr (pe_cal C__law_closed (by decide) hr (by rfl) (pa_cons (pv 0) (pa_cons (pv 1) pa_nil))))
 (pss_one (ps_ret (pe_callTy (call_tupQ (K := K) rfl) (by rfl) T.n_tuple (by decide +kernel) (pa_cons (pv 4) pa_nil))))))))), ?_⟩
    obtain ⟨t, rfl, ht⟩ := hev
    have ok := si.ok
    have N := ok.nms
    have hpl := ok.pl.parts.hi
    have hgl := ok.pl.gates.hi
    refine ⟨.ref ww, rfl, ww, .int c, rfl, W.gC, c, 1, rfl, rfl, .ref ww, rfl, ww, _, rfl, DPut.k (k := .inr "count") W.hw (small1000 (by show 4 ≤ 1000; decide)), ?_⟩
    rw [wk_putc]
    have W1 := W.cset (c' := c + 1) wsn
    have k1 : Kw ww g u H (upd H ww (.dK (wkv g u sA (c + 1)))) := Kw.at_ (.inl rfl)
    have up1 : ∀ b, (upd H ww (.dK (wkv g u sA (c + 1)))) b = none → H b = none := fun b e => upd_none e
    generalize upd H ww (.dK (wkv g u sA (c + 1))) = H1 at W1 k1 up1
    have hM1 := hM.kw k1 W
    have ht1 := k1.kt W _ _ ht
    refine ⟨.ref t, rfl, t, _, 1, .str e.2, rfl, rfl, .inr ht1, at1, by show 1 ≤ sizeLine; decide, fun l nl => ?_⟩
    have s2 : Same H1 (upd H1 l (.lst [.str e.2])) := Same.new nl
    refine ⟨Nat.zero_le _, fun fa nfa => ?_⟩
    have s3 : Same (upd H1 l (.lst [.str e.2])) (upd (upd H1 l (.lst [.str e.2])) fa (.lst [])) := Same.new nfa
    have s13 := s2.trans s3
    have hl3 := s3 _ _ (upd_same (H := H1) (a := l) (o := .lst [.str e.2]))
    have hf3 := upd_same (H := upd H1 l (.lst [.str e.2])) (a := fa) (o := .lst [])
    generalize upd (upd H1 l (.lst [.str e.2])) fa (.lst []) = H3 at s3 s13 hl3 hf3
    have W3 := W1.same s13
    refine ⟨sA, _, W3.hs, True.intro, fun od => ?_⟩
    have ww3 : (upd H3 sA (.frz od (.dK (dS V.int sn)))) ww = some (.dK (wkv g u sA (c + 1))) := by rw [upd_ne wsn]; exact W3.hw
    refine ⟨.ref ww, rfl, ww, .ref sA, rfl, gK ww3 wk_since, sA, od, rfl, .inl ⟨dS V.int sn, upd_same, fun D nD => ?_⟩⟩
    refine lc_it (walk_keys (kvs := dS V.int sn)) (fun i H4 => Same (upd H3 sA (.frz od (.dK (dS V.int sn)))) H4 ∧ ∃ as : List Addr, H4 D = some (.lst (as.map V.ref)) ∧ as.length ≤ i ∧ Paired (fun p (kv : Key × V) => SqT K H4 p [kV kv.1, kv.2]) as ((sn.take i).map fun p => ((.inr p.1 : Key), V.bl true)))
      ⟨Same.new nD, [], upd_same, Nat.le_refl _, .nil⟩ (fun i H4 _ p => p.1 _ _ upd_same) (fun i x H4 H5 hi p y => ?_) (fun H4 p => ?_)
    · obtain ⟨rfl, ky, vv, hkv, rfl⟩ := y
      obtain ⟨sm, as, hD, hle, hp⟩ := p
      have hi2 : i < sn.length := by simpa [dS] using hi
      obtain ⟨⟨n, z⟩, hsn⟩ : ∃ p, sn[i]? = some p := ⟨sn[i], List.getElem?_eq_getElem hi2⟩
      have ek : ky = .inr n := by
        have e : (dS V.int sn)[i]? = some ((.inr n : Key), V.int z) := by simp [dS, hsn]
        rw [e] at hkv
        cases hkv
        rfl
      subst ek
      refine ⟨rfl, .str n, rfl, by show 2 ≤ sizeLine; decide, fun q' nq => ?_⟩
      have s6 := Same.new (o := .tup [.str n, .bl true]) nq
      refine ⟨_, s6 _ _ hD, by rw [sizeLine_eq, List.length_map]; omega, Same.at (sm.trans s6) nD, as ++ [q'], by rw [upd_same, List.map_append]; rfl, by simp; omega, ?_⟩
      have kD : ∀ a l, SqT K (upd H5 q' (.tup [.str n, .bl true])) a l → SqT K (upd (upd H5 q' (.tup [.str n, .bl true])) D (.lst (as.map V.ref ++ [.ref q']))) a l := kt_lst (s6 _ _ hD)
      rw [List.take_add_one, hsn, Option.toList_some, List.map_append]
      refine paired_snoc ?_ (paired_imp (fun a b h => kD _ _ (Same.sqt s6 h)) hp)
      exact kD _ _ (.of upd_same)
    · obtain ⟨sm, as, hD, hle, hp⟩ := p
      have hS4 := sm _ _ (upd_same (H := H3) (a := sA) (o := .frz od (.dK (dS V.int sn))))
      refine ⟨hS4, ?_⟩
      have s4 : Same H3 (upd H4 sA (.dK (dS V.int sn))) := same_lock W3.hs sm
      have nDs : D ≠ sA := ne_of hD hS4 (by intro z; cases z)
      have hD5 : (upd H4 sA (.dK (dS V.int sn))) D = some (.lst (as.map V.ref)) := by rw [upd_ne nDs]; exact hD
      rw [show (dS V.int sn).length = sn.length from dS_len .., List.take_length] at hp
      have hp5 : Paired (fun p (kv : Key × V) => SqT K (upd H4 sA (.dK (dS V.int sn))) p [kV kv.1, kv.2]) as (sn.map fun p => ((.inr p.1 : Key), V.bl true)) := paired_imp (fun a b h => by
        rcases h with (h | ⟨o, h⟩) | h
        · exact .inl (.inl (by rw [upd_ne (ne_of h hS4 (by intro z; cases z))]; exact h))
        · exact .inl (.inr ⟨o, by rw [upd_ne (ne_of h hS4 (by intro z; cases z))]; exact h⟩)
        · exact .inr h) hp
      refine ⟨D, as, _, rfl, .of hD5, hp5, fun o no => ?_⟩
      have em : mergeK [] (sn.map fun p => ((.inr p.1 : Key), V.bl true)) = dS V.bl (snTr sn) := mergeK_dS V.bl (fun p : Str × Int => p.1) (fun _ => true) sn []
      rw [em]
      generalize upd H4 sA (.dK (dS V.int sn)) = H5 at s4 hD5 hp5 no
      have s5 : Same H5 (upd H5 o (.dK (dS V.bl (snTr sn)))) := Same.new no
      refine ⟨by show 3 ≤ sizeLine; decide, fun tt ntt => ?_⟩
      have s6 : Same (upd H5 o (.dK (dS V.bl (snTr sn)))) (upd (upd H5 o (.dK (dS V.bl (snTr sn)))) tt (.tup [.ref l, .ref fa, .ref o])) := Same.new ntt
      refine ⟨tt, _, rfl, .of upd_same, rfl, .ref l, _, rfl, .ref fa, _, rfl, .ref o, [], rfl, rfl, ?_⟩
      have s36 := s4.trans (s5.trans s6)
      have ho6 := s6 _ _ (upd_same (H := H5) (a := o) (o := .dK (dS V.bl (snTr sn))))
      generalize upd (upd H5 o (.dK (dS V.bl (snTr sn)))) tt (.tup [.ref l, .ref fa, .ref o]) = H6 at s6 s36 ho6
      have W6 := W3.same s36
      have kw6 : Kw ww g u H H6 := k1.trans (Same.kw (s13.trans s36))
      have hl6 : H6 l = some (.lst (sV [e.2])) := s36 _ _ hl3
      have hf6 : H6 fa = some (.lst (sV [])) := s36 _ _ hf3
      have ht6 := kw6.kt W _ _ ht
      have hM6 := hM.kw kw6 W
      have n1 : l ≠ fa := ne_of_none (upd_same (H := H1) (a := l) (o := .lst [.str e.2])) nfa
      have n2 : l ≠ g := (ne_of_none W1.hg nl).symm
      have n3 : fa ≠ g := (ne_of_none (s2 _ _ W1.hg) nfa).symm
      have nl0 := up1 _ nl
      have nf0 := up1 _ (s2.free nfa)
      have ou : o ≠ u := (ne_of_none ((s4 _ _ W3.hu)) no).symm
      have gl : gone.length ≤ ps.length := by
        have p : gone.Perm st.1 := (List.perm_ext_iff_of_nodup R.nd si.fok.nd).mpr R.mem
        have := si.fok.len
        rw [p.length_eq]
        exact this
      have gp : GP (ps.map (·.1)) gs := ok.pl.gates.each
      have pool : ∀ n qs, G.spare n qs ∈ gs → qs.length ≤ 500 := fun n qs hm => by
        have := gp.pool n qs hm
        rw [List.length_map] at this
        omega
      have hul : st.2.1.length ≤ 8 := ok.ul
      dsimp only
      refine seq_of (fun σ' H' => ∃ l' R t' y6 y7 y8 y9 y10, σ' = [some (.ref m), some (.ref ww), some (.ref t), some (.ref l'), some (.ref fa), some (.ref o), y6, y7, y8, y9, y10] ∧ LV ps gs cs st.2.1 sn (c + 1) H ww g u sA l' fa R t' o H' ∧
        R.uses = (nextOf ps gs cs st e).1.2.1 ∧ R.fallen = (nextOf ps gs cs st e).2 ∧ Rel ps gs (nextOf ps gs cs st e).1 R.failed (sinceU (lawTr R.failed R.uses sn (c + 1) ps gs) sn (c + 1)) (c + 1)) (fun σ' H' p => ?_) (fun fin => ?_)
      rotate_left
      · refine ⟨.ref t, rfl, t, _, 0, .str e.1, rfl, rfl, .inr ht6, at0, rfl, decide (e.1 = "mend"), by rw [← decStr], ?_⟩
        obtain ⟨e1, e2⟩ := e
        by_cases em : e1 = "mend"
        · subst em
          refine iteT ?_
          have hin : e2 ∈ gone := by
            rcases eok.ex with ⟨_, h⟩ | ⟨h, _⟩
            · exact (R.mem _).mpr h
            · exact absurd h.symm ne_fail_mend
          obtain ⟨f1, f2⟩ := law_mend (cs := cs) (tp := tp) si R hin
          refine ⟨.ref ww, rfl, ww, .ref g, rfl, W6.gG, .inl ⟨rfl, _, .of W6.hg⟩, .ref t, rfl, t, _, 1, .str e2, rfl, rfl, .inr ht6, at1, g, gone, e2, rfl, rfl, W6.hg, hin, ?_⟩
          have W7 := W6.gset (fl' := gone.erase e2)
          have k7 : Kw ww g u H (upd H6 g (.lst (sV (gone.erase e2)))) := kw6.trans (Kw.at_ (.inr (.inl rfl)))
          have hf7 : upd H6 g (.lst (sV (gone.erase e2))) fa = some (.lst (sV [])) := by rw [upd_ne n3]; exact hf6
          have ho7 : upd H6 g (.lst (sV (gone.erase e2))) o = some (.dK (dS V.bl (snTr sn))) := by rw [upd_ne (ne_of ho6 W6.hg (by intro z; cases z))]; exact ho6
          have up7 : ∀ b, upd H6 g (.lst (sV (gone.erase e2))) b = none → H b = none := fun b e => up1 _ ((s13.trans s36).free (upd_none e))
          generalize upd H6 g (.lst (sV (gone.erase e2))) = H7 at W7 k7 hf7 ho7 up7
          refine ⟨Nat.zero_le _, fun l2 nl2 => ?_⟩
          have s8 : Same H7 (upd H7 l2 (.lst [])) := Same.new nl2
          have W8 := W7.same s8
          have k8 := k7.trans (Same.kw s8)
          have hM8 := hM.kw k8 W
          obtain ⟨kvs, pa, ca, ga, xs, zs, ys, hm, v1, v2, v3, v4, h1, e1, h2, e2', h3, e3, q1, q2, q3, q4, q5⟩ := hM8.ex
          refine ⟨.ref m, rfl, .ref ww, rfl, m, ww, kvs, ga, ys, gs, g, u, sA, c + 1, gone.erase e2, st.2.1, sn, rfl, hm, v3, q2, .inl (.of h3), e3, W8, by omega, by have := List.length_erase_le (a := e2) (l := gone); omega, pool, fun H9 ku9 W9 => ?_⟩
          have gel := List.length_erase_le (a := e2) (l := gone)
          have n2' : l2 ≠ g := (ne_of_none W7.hg nl2).symm
          have nu : ∀ {b : Addr} {zs : List V}, upd H7 l2 (.lst []) b = some (.lst zs) → b ≠ u := fun e => ne_of e W8.hu (by intro z; cases z)
          refine fin _ _ ⟨l2, ⟨[], gone.erase e2, [], seatU (gone.erase e2) st.2.1 gs, snTr sn⟩, ⟨[], gone.erase e2, [], seatU (gone.erase e2) st.2.1 gs, snTr sn⟩, _, _, _, _, _, rfl, ?_, f1, ?_, ?_⟩
          · refine ⟨k8.trans (Kw.ku ku9), W9, ku9 _ _ upd_same (nu upd_same), ku9 _ _ (s8 _ _ hf7) (nu (s8 _ _ hf7)), ku9 _ _ (s8 _ _ ho7) ou, (ne_of_none hf7 nl2).symm, n2', n3, up7 _ nl2, nf0, ou, ?_, .inl rfl, ?_, Nat.zero_le _, by show (gone.erase e2).length ≤ _; omega⟩
            · show (seatU (gone.erase e2) st.2.1 gs).map (·.1) = _
              rw [seat_take gs _ ok.nd ok.sp (full_of ok.pl)]
              exact takeU_keys ok.sp
            · show lall ps gs cs sn (c + 1) (ps.length - (gone.erase e2).length) _ = _
              generalize ps.length - (gone.erase e2).length = k
              cases k with
              | zero => rfl
              | succ k => exact if_pos rfl
          · rw [show nextOf ps gs cs st ("mend", e2) = ((srtS (mendFl st.1 e2), mendUs gs st.1 st.2.1 e2, heldOf gs (mendTr ps gs st.1 st.2.1 st.2.2 e2)), []) from if_pos rfl]
          · show Rel ps gs _ (gone.erase e2) (sinceU (lawTr (gone.erase e2) (seatU (gone.erase e2) st.2.1 gs) sn (c + 1) ps gs) sn (c + 1)) (c + 1)
            rw [f1]
            exact f2
        · rw [decide_eq_false em]
          refine iteF ?_
          have ef : e1 = "fail" := by
            rcases eok.ex with ⟨h, _⟩ | ⟨h, _⟩
            · exact absurd h em
            · exact h
          subst ef
          obtain ⟨f1, f2, f3⟩ := law_fail (cs := cs) (tp := tp) si eok R
          rcases eok.ex with ⟨h, _⟩ | ⟨_, x1, x2, _⟩
          · exact absurd h em
          have en : nextOf ps gs cs st ("fail", e2) = ((srtS (failEnd ps gs cs st.1 st.2.1 st.2.2 e2).failed, (failEnd ps gs cs st.1 st.2.1 st.2.2 e2).uses, heldOf gs (failEnd ps gs cs st.1 st.2.1 st.2.2 e2).now), (failEnd ps gs cs st.1 st.2.1 st.2.2 e2).fallen) := if_neg ne_fail_mend
          refine fin _ _ ⟨l, lawFail ps gs cs gone st.2.1 sn c e2, ⟨[e2], gone, [], st.2.1, snTr sn⟩, _, _, _, _, _, rfl, ?_, ?_, ?_, f3⟩
          · exact ⟨kw6, W6, hl6, hf6, ho6, n1, n2, n3, nl0, nf0, ou, rfl, .inr ⟨⟨[e2], st.1, [], st.2.1, trIn ps gs st⟩, start_inv si.fok x1 x2, ⟨rfl, R.mem, R.nd, rfl, rfl, fun x => by rw [Bool.eq_iff_iff, look_snTr, R.key]⟩⟩, rfl, Nat.zero_le _, gl⟩
          · rw [f1.uses, en]
          · rw [f1.fallen, en]
      · obtain ⟨l', RR, t', y6, y7, y8, y9, y10, rfl, I, r1, r2, r3⟩ := p
        have lineSub : ∀ {t : FS}, (t.line = [] ∨ ∃ s, FInv ps gs st.2.1 s ∧ LRel s t) → ∀ x ∈ t.line, x ∈ ps.map (·.1) := fun h x hx => by
          rcases h with h | ⟨s, hs, hr⟩
          · rw [h] at hx; cases hx
          · rw [hr.line] at hx; exact hs.lsub x hx
        dsimp only [tSeq]
        refine while_by (fun σ H2 => ∃ t2 o2 y6 y7 y8 y9 y10, σ = [some (.ref m), some (.ref ww), some (.ref t), some (.ref l'), some (.ref fa), some (.ref o2), y6, y7, y8, y9, y10] ∧ LV ps gs cs st.2.1 sn (c + 1) H ww g u sA l' fa RR t2 o2 H2) (fun _ H2 => match H2 g with | some (.lst ys) => ps.length - ys.length | _ => 0)
          ⟨t', o, _, _, _, _, _, rfl, I⟩ (fun σ H2 p => ?_) ?_
        · obtain ⟨t2, o2, z6, z7, z8, z9, z10, rfl, I2⟩ := p
          refine ⟨.ref l', rfl, Nat.zero_le _, fun p np => ?_⟩
          have sp : Same H2 (upd H2 p (.lst [])) := Same.new np
          have I3 := I2.same sp
          have shp : SeqAt.shaped (.list (t2.line.map PyData.str)) = true := shaped_list fun d hd => by
            obtain ⟨x, hx, rfl⟩ := List.mem_map.mp hd
            exact (sh_str (ok.pl.parts.names x (lineSub I2.pos x hx))).up (by decide)
          refine ⟨.list (t2.line.map PyData.str), .list [], .lst (.of I3.hl) (dpAll_strs _), .lst (.of upd_same) .nil, shp, by decide, !t2.line.isEmpty, by cases t2.line <;> simp [PyData.eqv, PyData.eqvAll], ?_⟩
          have hg2 : H2 g = some (.lst (sV t2.failed)) := I2.W.hg
          generalize upd H2 p (.lst []) = H3 at sp I3
          cases el : t2.line with
          | nil =>
            refine iteF ?_
            have eR : RR = t2 := by
              rw [← I2.run]
              generalize ps.length - t2.failed.length = k
              cases k with
              | zero => rfl
              | succ k => exact if_pos (by rw [el]; rfl)
            subst eR
            have hM3 := hM.kw I3.kw W
            obtain ⟨kvs, pa, ca, ga, xs, zs, ys, hm, v1, v2, v3, v4, h1, e1, h2, e2', h3, e3, q1, q2, q3, q4, q5⟩ := hM3.ex
            refine ⟨.ref m, rfl, .ref ww, rfl, m, ww, kvs, pa, xs, ps, ga, ys, gs, g, u, sA, c + 1, RR.failed, RR.uses, sn, rfl, hm, v1, v3, .inl (.of h1), e1, .inl (.of h3), e3, I3.W, ok.tell I3.keys, fun H4 s2 ku4 ns2 W4 => ?_⟩
            have hf4 : H4 fa = some (.lst (sV RR.fallen)) := ku4 _ _ I3.hf (ne_of I3.hf I3.W.hw (by intro z; cases z))
            refine ⟨.ref fa, rfl, fa, _, rfl, .inl (.of hf4), fun tt H5 s5 htt => ?_⟩
            rw [r2] at htt
            rw [r1] at W4 r3
            have hs2 : H s2 = none := by
              cases eh : H s2 with
              | none => rfl
              | some o0 =>
                have := I3.kw _ _ eh (ne_of_none I3.W.hw ns2).symm (ne_of_none I3.W.hg ns2).symm (ne_of_none I3.W.hu ns2).symm
                rw [ns2] at this
                cases this
            refine q H5 tt s2 RR.failed _ ((I3.kw.trans (Kw.kww ku4)).trans (Same.kw s5)) (W4.same s5) (ne_of_none I3.W.hw ns2) hs2 r3 ?_ htt
            refine Nat.le_trans since_le ?_
            have : (lawTr RR.failed (nextOf ps gs cs st e).1.2.1 sn (c + 1) ps gs).length ≤ ps.length + gs.length := tellM_le
            omega
          | cons x r =>
            refine iteT ?_
            obtain ⟨s0, F0, L0⟩ : ∃ s, FInv ps gs st.2.1 s ∧ LRel s t2 := by
              rcases I2.pos with h | h
              · rw [el] at h; cases h
              · exact h
            have room := F0.room
            have flen : t2.failed.length = s0.failed.length := ((List.perm_ext_iff_of_nodup L0.nd F0.fnd).mpr L0.mem).length_eq
            have llen : s0.line.length = r.length + 1 := by rw [← L0.line, el]; rfl
            have hl0 := I3.hl
            rw [el] at hl0
            have hM3 := hM.kw I3.kw W
            -- found.append(line.pop(0))
            have W4 := I3.W.lset (ys := sV r) hl0 I3.n2
            have k4 : Kw ww g u H (upd H3 l' (.lst (sV r))) := I3.kw.new I3.nl
            have hl4 : upd H3 l' (.lst (sV r)) l' = some (.lst (sV r)) := upd_same
            have hf4 : upd H3 l' (.lst (sV r)) fa = some (.lst (sV t2.fallen)) := by rw [upd_ne I3.n1.symm]; exact I3.hf
            have ho4 : upd H3 l' (.lst (sV r)) o2 = some (.dK (dS V.bl t2.now)) := dk_upd I3.ho hl0
            have fal := I2.fal
            refine ⟨.ref fa, rfl, .inl ⟨rfl, _, .of I3.hf⟩, .ref l', rfl, .inl ⟨rfl, _, .of hl0⟩, l', sV (x :: r), 0, 0, .str x, rfl, rfl, hl0, by omega, by omega, PySem.StrLaws.seqIndex_nonneg (by omega) (by simp [sV]), rfl, ?_⟩
            refine ⟨fa, sV t2.fallen, .str x, rfl, rfl, hf4, by rw [sizeLine_eq]; simp [sV]; omega, ?_⟩
            rw [show (sV (x :: r)).eraseIdx 0 = sV r from rfl]
            have W5 := W4.lset (ys := sV t2.fallen ++ [.str x]) hf4 I3.n3
            have k5 : Kw ww g u H (upd (upd H3 l' (.lst (sV r))) fa (.lst (sV t2.fallen ++ [.str x]))) := k4.new I3.nf
            have hl5 : upd (upd H3 l' (.lst (sV r))) fa (.lst (sV t2.fallen ++ [.str x])) l' = some (.lst (sV r)) := by rw [upd_ne I3.n1]; exact hl4
            have hf5 : upd (upd H3 l' (.lst (sV r))) fa (.lst (sV t2.fallen ++ [.str x])) fa = some (.lst (sV t2.fallen ++ [.str x])) := upd_same
            have ho5 : upd (upd H3 l' (.lst (sV r))) fa (.lst (sV t2.fallen ++ [.str x])) o2 = some (.dK (dS V.bl t2.now)) := dk_upd ho4 hf4
            generalize upd (upd H3 l' (.lst (sV r))) fa (.lst (sV t2.fallen ++ [.str x])) = H5 at W5 k5 hl5 hf5 ho5
            -- w['gone'].append(found[-1])
            refine ⟨.ref ww, rfl, ww, .ref g, rfl, W5.gG, .inl ⟨rfl, _, .of W5.hg⟩, .ref fa, rfl, 1, rfl, fa, _, -1, .str x, rfl, rfl, .of hf5, atI_last _ _, g, sV t2.failed, .str x, rfl, rfl, W5.hg, by rw [sizeLine_eq]; simp [sV]; omega, ?_⟩
            have W6 : WAt (upd H5 g (.lst (sV t2.failed ++ [.str x]))) ww g u sA (c + 1) (t2.failed ++ [x]) t2.uses sn := by
              rw [sV_snoc]
              exact W5.gset
            have k6 : Kw ww g u H (upd H5 g (.lst (sV t2.failed ++ [.str x]))) := k5.trans (Kw.at_ (.inr (.inl rfl)))
            have hl6 : upd H5 g (.lst (sV t2.failed ++ [.str x])) l' = some (.lst (sV r)) := by rw [upd_ne I3.n2]; exact hl5
            have hf6 : upd H5 g (.lst (sV t2.failed ++ [.str x])) fa = some (.lst (sV (t2.fallen ++ [x]))) := by rw [upd_ne I3.n3, ← sV_snoc]; exact hf5
            have ho6' : upd H5 g (.lst (sV t2.failed ++ [.str x])) o2 = some (.dK (dS V.bl t2.now)) := dk_upd ho5 W5.hg
            generalize upd H5 g (.lst (sV t2.failed ++ [.str x])) = H7 at W6 k6 hl6 hf6 ho6'
            -- seat
            have hM7 := hM.kw k6 W
            have ul2 : t2.uses.length = st.2.1.length := by simpa using congrArg List.length I2.keys
            obtain ⟨kvs, pa, ca, ga, xs, zs, ys, hm, v1, v2, v3, v4, h1, e1, h2, e2', h3, e3, q1, q2, q3, q4, q5⟩ := hM7.ex
            refine ⟨.ref m, rfl, .ref ww, rfl, m, ww, kvs, ga, ys, gs, g, u, sA, c + 1, t2.failed ++ [x], t2.uses, sn, rfl, hm, v3, q2, .inl (.of h3), e3, W6, by omega, by simp; omega, pool, fun H8 ku8 W8 => ?_⟩
            have k8 := k6.trans (Kw.ku (ww := ww) (g := g) ku8)
            have nu : ∀ {b : Addr} {zs : List V}, H7 b = some (.lst zs) → b ≠ u := fun e => ne_of e W6.hu (by intro z; cases z)
            have hl8 := ku8 _ _ hl6 (nu hl6)
            have hf8 := ku8 _ _ hf6 (nu hf6)
            have ho8 := ku8 _ _ ho6' I2.ou
            have hM8 := hM.kw k8 W
            have kuN : KeysNd t2.uses := by unfold KeysNd; rw [I2.keys]; exact ok.nd
            have eu : seatU (t2.failed ++ [x]) t2.uses gs = takeU (t2.failed ++ [x]) t2.uses gs := seat_take gs _ kuN (spareIn_keys I2.keys ok.sp) (full_of ok.pl)
            have kk : (seatU (t2.failed ++ [x]) t2.uses gs).map (·.1) = st.2.1.map (·.1) := by rw [eu]; exact takeU_keysOf I2.keys ok.sp
            -- truths
            obtain ⟨kvs, pa, ca, ga, xs, zs, ys, hm, v1, v2, v3, v4, h1, e1, h2, e2', h3, e3, q1, q2, q3, q4, q5⟩ := hM8.ex
            refine ⟨.ref m, rfl, .ref ww, rfl, m, ww, kvs, pa, xs, ps, ga, ys, gs, g, u, sA, c + 1, t2.failed ++ [x], seatU (t2.failed ++ [x]) t2.uses gs, sn, rfl, hm, v1, v3, .inl (.of h1), e1, .inl (.of h3), e3, W8, ok.tell kk, fun H9 nw s9 nnw hnw => ?_⟩
            have k9 := k8.trans (Same.kw (ww := ww) (g := g) (u := u) s9)
            have hM9 := hM.kw k9 W
            have hk : ps.length - t2.failed.length = (ps.length - (t2.failed ++ [x]).length) + 1 := by simp; omega
            have eStep : lstep ps gs cs sn (c + 1) t2 = ⟨joinL cs (lawTr (t2.failed ++ [x]) (seatU (t2.failed ++ [x]) t2.uses gs) sn (c + 1) ps gs) t2.now (t2.failed ++ [x]) r, t2.failed ++ [x], t2.fallen ++ [x], seatU (t2.failed ++ [x]) t2.uses gs, lawTr (t2.failed ++ [x]) (seatU (t2.failed ++ [x]) t2.uses gs) sn (c + 1) ps gs⟩ := by unfold lstep; rw [el]
            have L2' := L0.step (cs := cs) (c := c) N (full_of ok.pl) ok.pl.causes R ok.nd ok.sp F0
            have F2 := F0.step (ea := trIn ps gs st) N ok.sp ok.pl.causes
            have run2 : lall ps gs cs sn (c + 1) (ps.length - (t2.failed ++ [x]).length) (lstep ps gs cs sn (c + 1) t2) = RR := by
              have := I2.run
              rw [hk] at this
              unfold lall at this
              rw [el] at this
              exact this
            have kn : KeyAll ps gs (lawTr (t2.failed ++ [x]) (seatU (t2.failed ++ [x]) t2.uses gs) sn (c + 1) ps gs) := keyAll_tell
            generalize eus : seatU (t2.failed ++ [x]) t2.uses gs = us2 at *
            generalize enow : lawTr (t2.failed ++ [x]) us2 sn (c + 1) ps gs = now at *
            generalize efl : t2.failed ++ [x] = fl2 at *
            have fl2l : fl2.length = t2.failed.length + 1 := by rw [← efl]; simp
            obtain ⟨kvs, pa, ca, ga, xs, zs, ys, hm, v1, v2, v3, v4, h1, e1, h2, e2', h3, e3, q1, q2, q3, q4, q5⟩ := hM.ex
            have hm9 := k9 _ _ hm q1 (ne_of hm W.hg (by intro z; cases z)) q2
            have h29 := k9 _ _ h2 (ne_of h2 W.hw (by intro z; cases z)) q4 (ne_of h2 W.hu (by intro z; cases z))
            have chi := ok.pl.causes.hi
            have hcl : ∀ c' ∈ cs, c'.2.length ≤ 8 := fun c' hc => by
              have := choice_le (ok.pl.causes.each c' hc).ch
              rw [List.length_map] at this
              omega
            have jle : ∀ (l : List (Str × List Str)) (a : List Str), (∀ c' ∈ l, c'.2.length ≤ 8) → (l.foldl (joinA now t2.now fl2) a).length ≤ a.length + 8 * l.length := by
              intro l
              induction l with
              | nil => exact fun a _ => by simp
              | cons c0 r0 ih =>
                intro a hh
                have h1 := ih (joinA now t2.now fl2 a c0) fun c' hc => hh c' (List.mem_cons_of_mem _ hc)
                have h2 : (joinA now t2.now fl2 a c0).length ≤ a.length + 8 := by
                  unfold joinA
                  split
                  · have h3 := hh c0 (List.mem_cons_self ..)
                    have h4 : (c0.2.filter fun x => !decide (x ∈ fl2) && !decide (x ∈ a)).length ≤ c0.2.length := List.length_filter_le ..
                    rw [List.length_append]
                    omega
                  · omega
                rw [List.foldl_cons, List.length_cons]
                omega
            refine ⟨.ref m, rfl, m, .ref ca, rfl, gK hm9 v2, ca, true, rfl, ⟨_, .of h29⟩, for_it (walk_sq (b := true) (xs := zs)) (fun i σ HH => ∃ w7 w8 w9 w10, σ = [some (.ref m), some (.ref ww), some (.ref t), some (.ref l'), some (.ref fa), some (.ref o2), some (.ref nw), w7, w8, w9, w10] ∧ Kw ww g u H HH ∧ WAt HH ww g u sA (c + 1) fl2 us2 sn ∧ HH l' = some (.lst (sV ((cs.take i).foldl (joinA now t2.now fl2) r))) ∧ HH fa = some (.lst (sV (t2.fallen ++ [x]))) ∧ HH o2 = some (.dK (dS V.bl t2.now)) ∧ HH nw = some (.dK (dS V.bl now)))
              ⟨_, _, _, _, rfl, k9, W8.same s9, s9 _ _ hl8, s9 _ _ hf8, s9 _ _ ho8, hnw⟩ (fun i σ HH hi p => ?_) (fun i x' σ HH HK hi p y => ?_) (fun σ HH p => ?_)⟩
            · obtain ⟨_, _, _, _, _, kk', _⟩ := p
              exact .of (kk' _ _ h2 (ne_of h2 W.hw (by intro z; cases z)) q4 (ne_of h2 W.hu (by intro z; cases z)))
            · obtain ⟨w7, w8, w9, w10, rfl, kk', W', hl', hf', ho', hnw'⟩ := p
              obtain ⟨rfl, hx'⟩ := y
              obtain ⟨c0, hc0, a0, b0, rfl, ha0, hb0⟩ := e2'.2 i x' hx'
              have ha1 := kk'.kt W _ _ ha0
              have hb1 := kk'.kt W _ _ hb0
              have hcm : c0 ∈ cs := List.mem_of_getElem? hc0
              have eT : (cs.take (i + 1)).foldl (joinA now t2.now fl2) r = joinA now t2.now fl2 ((cs.take i).foldl (joinA now t2.now fl2) r) c0 := fold_succ _ _ hc0
              have accl : ((cs.take i).foldl (joinA now t2.now fl2) r).length ≤ 100 := by
                have h1 := jle (cs.take i) r fun c' hc => hcl c' (List.mem_of_mem_take hc)
                rw [List.length_take] at h1
                omega
              generalize (cs.take i).foldl (joinA now t2.now fl2) r = acc at *
              refine ⟨a0, _, rfl, ha1, rfl, .str c0.1, _, rfl, .ref b0, [], rfl, rfl, ?_⟩
              refine tAnd_pure (lookT now c0.1) (!lookT t2.now c0.1) (fun Q' q' => ?_) (fun _ Q' q' => ?_) ?_
              · exact ⟨.ref nw, rfl, .str c0.1, rfl, nw, _, rfl, KeyIn.look (kn c0.1 (ok.pl.causes.each c0 hcm).trig) hnw', lookT now c0.1, rfl, q'⟩
              · have gO : DGet HK o2 (.str c0.1) ((getA t2.now c0.1).map V.bl) := by
                  have q := DGet.k (k := .inr c0.1) ho'
                  rw [valV_dS] at q
                  exact q
                refine ⟨.ref o2, rfl, o2, rfl, .inl ⟨_, .inl ho'⟩, .str c0.1, rfl, _, gO, lookT t2.now c0.1, ?_, q'⟩
                unfold lookT
                cases getA t2.now c0.1 <;> rfl
              · refine ite2 (fun eb => ?_) (fun eb => ?_)
                · refine ⟨.ref l', rfl, .inl ⟨rfl, _, .of hl'⟩, .ref b0, rfl, b0, false, rfl, ⟨_, hb1⟩, fun M nM => ?_⟩
                  refine lc_it (walk_sq (b := false) (xs := sV c0.2)) (LP HK M fun j => sV ((c0.2.take j).filter fun x => !decide (x ∈ fl2) && !decide (x ∈ acc))) (LP.zero nM rfl) (fun _ _ _ p => Same.sqb (b := false) p.sm hb1) (fun j x' HL HM hj pL y => ?_) (fun HL pL => ?_)
                  · obtain ⟨rfl, hx2⟩ := y
                    obtain ⟨hj2, rfl⟩ := sV_get hx2
                    have WL := W'.same pL.sm
                    refine ⟨rfl, ?_⟩
                    refine tAnd_pure (!decide (c0.2[j] ∈ fl2)) (!decide (c0.2[j] ∈ acc)) (fun Q' q' => ?_) (fun _ Q' q' => ?_) ?_
                    · refine ⟨.str c0.2[j], rfl, .ref ww, rfl, ww, .ref g, rfl, WL.gG, g, _, rfl, .inl (.of WL.hg), rfl, flat_sV _, !decide (c0.2[j] ∈ fl2), ?_, q'⟩
                      show V.bl (!inV (.str c0.2[j]) (sV fl2)) = _
                      rw [inV_sV]
                    · refine ⟨.str c0.2[j], rfl, .ref l', rfl, l', _, rfl, .inl (.of (pL.sm _ _ hl')), rfl, flat_sV _, !decide (c0.2[j] ∈ acc), ?_, q'⟩
                      show V.bl (!inV (.str c0.2[j]) (sV acc)) = _
                      rw [inV_sV]
                    · refine ite2 (fun e => ?_) (fun e => ?_)
                      · refine ⟨.str c0.2[j], rfl, pL.put nM (Same.refl _) ?_ ?_⟩
                        · rw [take_sV hj2, List.filter_append, filter_one, if_pos e]; simp [sV]
                        · refine small1000 ?_
                          have z1 : ((c0.2.take j).filter fun x => !decide (x ∈ fl2) && !decide (x ∈ acc)).length ≤ (c0.2.take j).length := List.length_filter_le ..
                          have z2 := hcl c0 hcm
                          simp [sV] at z1 ⊢
                          omega
                      · refine pL.skip (Same.refl _) ?_
                        rw [take_sV hj2, List.filter_append, filter_one, if_neg e, List.append_nil]
                  · have hMM : HL M = some (.lst (sV (c0.2.filter fun x => !decide (x ∈ fl2) && !decide (x ∈ acc)))) := by
                      rw [pL.at_, show (sV c0.2).length = c0.2.length from List.length_map .., List.take_length]
                    have sL := pL.sm
                    have z1 : (c0.2.filter fun x => !decide (x ∈ fl2) && !decide (x ∈ acc)).length ≤ c0.2.length := List.length_filter_le ..
                    have z2 := hcl c0 hcm
                    have hlL := sL _ _ hl'
                    have WL := W'.same sL
                    refine ⟨l', M, _, _, rfl, rfl, hlL, hMM, by rw [sizeLine_eq]; simp [sV]; omega, ?_⟩
                    refine ⟨_, _, _, _, rfl, (kk'.trans (Same.kw sL)).new I3.nl, WL.lset hlL I3.n2, ?_, by rw [upd_ne I3.n1.symm]; exact sL _ _ hf', dk_upd (sL _ _ ho') hlL, dk_upd (sL _ _ hnw') hlL⟩
                    rw [upd_same, eT]
                    unfold joinA
                    rw [if_pos eb]
                    simp [sV]
                · refine ⟨_, _, _, _, rfl, kk', W', ?_, hf', ho', hnw'⟩
                  rw [eT]
                  unfold joinA
                  rw [if_neg eb]
                  exact hl'
            · obtain ⟨w7, w8, w9, w10, rfl, kk', W', hl', hf', ho', hnw'⟩ := p
              rw [e2'.1, List.take_length] at hl'
              rw [eStep] at L2' run2
              refine ⟨.ref nw, rfl, ?_⟩
              refine ⟨⟨_, nw, _, _, _, _, _, rfl, ⟨kk', W', hl', hf', hnw', I3.n1, I3.n2, I3.n3, I3.nl, I3.nf, (ne_of_none W8.hu nnw).symm, kk, .inr ⟨_, F2, L2'⟩, run2, by simp; omega, by show fl2.length ≤ _; omega⟩⟩, ?_⟩
              show (match HH g with | some (.lst ys) => ps.length - ys.length | _ => 0) < (match H2 g with | some (.lst ys) => ps.length - ys.length | _ => 0)
              rw [W'.hg, hg2]
              simp [sV]
              omega
        · intro σ H2 Q1 Q2 hq h
          obtain ⟨v, hv, hz, f⟩ := h
          refine ⟨v, hv, hz, fun p hp => ?_⟩
          obtain ⟨d, e, a1, a2, a3, a4, b, hb, hQ⟩ := f p hp
          exact ⟨d, e, a1, a2, a3, a4, b, hb, hq _ _ hQ⟩
end
end Kf

set_option Elab.async false
set_option linter.all false
set_option maxRecDepth 100000
set_option maxHeartbeats 2000000
namespace Kf
open PySem PySem.Spec PyProof.Rows L2 LamX NdefX TL
section
variable {P : Program} {w : World} {K : PySem.W.Frag} {mg : Str → Option Value} {base : Heap}
def spCan (K : PySem.W.Frag) : Sp := fun vs H Q _ => ∃ m ww ps cs gs tp g u s c gone us sn, vs = [.ref m, .ref ww] ∧ MWt K H m ww g u ps cs gs tp ∧ WAt H ww g u s c gone us sn ∧ ps.length ≤ 400 ∧ gone.length ≤ 400 ∧ us.length ≤ 400 ∧
  ∀ H' p xs, Same H H' → H p = none → H' p = some (.lst xs) → Paired (PartAt K H') xs (srtP (eventsOf ps gone us)) → Q (.ref p) H'
theorem ok_law_can {f : Addr} {fd : FuncData} (F : L2.Fun K "_law_can" "_law_can" s__law_can f fd) (T : Nm mg) : FnOk P w K mg base CX0 1 f fd ["m", "w"] (spCan K) := by
  refine F.ok sc__law_can (fun vs H Q E h => ?_) (fun cdv A outer s H vs Q E hr h => ?_)
  · obtain ⟨m, ww, ps, cs, gs, tp, g, u, s, c, gone, us, sn, rfl, _⟩ := h
    rfl
  · obtain ⟨m, ww, ps, cs, gs, tp, g, u, sA, c, fl, us, sn, rfl, hM, W, hpl, hfl, hul, q⟩ := h
    have hu := hu_of hr
    have hu64 := hr.units
    obtain ⟨kvs, pa, ca, ga, xs, zs, ys, hm, v1, v2, v3, v4, h1, e1, h2, e2, h3, e3, q1, q2, q3, q4, q5⟩ := hM.ex
    refine ⟨_, (pss_cons (ps_setLc (i := 2) (own := [("part", 3)]) (g := gName 3) (by rfl) sc__law_can.nd rfl rfl (sw_true rfl rfl rfl (by decide +kernel)) (pi_sq (pe_dget hu (pv 1) pe_str (fun _ _ => rfl))) (blkOk_by (own := [("part", 3)]) (N := ["m", "w", "found", "part", "kind"]) (sc := defScope s__law_can) (by decide +kernel)) (fun _ _ _ _ _ => pg_name (i := 3) sc__law_can.nd rfl (.inl rfl)) (fun _ _ _ _ _ => pts_nil) (fun _ _ _ _ _ => (pe_tup (pa_cons pe_str (pa_cons (pv 3) pa_nil)))))
 (pss_cons (ps_for PassesOwn.never rfl (pi_sq (pe_dget hu (pv 0) pe_str (fun _ _ => rfl))) (pg_tupK (K := K) (n := 2) rfl rfl (pgs_cons (pg_name (i := 3) sc__law_can.nd rfl (.inl rfl)) (pgs_cons (pg_name (i := 4) sc__law_can.nd rfl (.inl rfl)) pgs_nil)))
 (pss_one (ps_if (PW.pt (pw_and (pt_cmpR (op_notInK (K := K) rfl) (pv 3) (pe_dget hu (pv 1) pe_str (fun _ _ => rfl)) (by with_unfolding_all rfl)) (pw_and1 (PW.pt (pw_or (pt_cmpR op_eq (pv 4) pe_str (nomark _)) (pw_or1 (pt_cmpR (op_inK (K := K) rfl) (pv 3) (pe_listVals rfl (pe_dget hu (pv 1) pe_str (fun _ _ => rfl)) (by rfl) T.n_list (by decide +kernel)) (by with_unfolding_all rfl))))))))
 (pss_one (ps_expr (pe_bm PySem.F.plainAttrs_list PySem.F.slot_list_append PySem.F.type_list_append mt_append (pv 2) (pa_cons (pe_tup (pa_cons pe_str (pa_cons (pv 3) pa_nil))) pa_nil))))
 pss_nil)))
 (pss_one (ps_ret (pe_callB (cr_sortV hu64) (by rfl) T.n_sorted (by decide +kernel) (pa_cons (pv 2) pa_nil)))))), ?_⟩
    refine ⟨.ref ww, rfl, ww, .ref g, rfl, W.gG, g, true, rfl, ⟨_, .of W.hg⟩, fun M nM => ?_⟩
    refine lc_it (walk_sq (b := true) (xs := sV fl)) (fun i H2 => LQ K H M ((fl.take i).map fun x => (("mend" : Str), x)) H2) (LQ.zero nM) (fun _ _ _ p => Same.sqb (b := true) p.sm (.of W.hg)) (fun i x H3 H4 hi p y => ?_) (fun H3 p => ?_)
    · obtain ⟨rfl, hx⟩ := y
      obtain ⟨hi2, rfl⟩ := sV_get hx
      refine ⟨rfl, .str fl[i], rfl, by show 2 ≤ sizeLine; decide, fun t nt => ?_⟩
      rw [take_sV hi2, List.map_append]
      exact p.put nM (Same.new nt) ⟨t, rfl, .of upd_same⟩ (by simp; omega)
    have elen : (sV fl).length = fl.length := List.length_map ..
    rw [elen, List.take_length] at p
    have s3 := p.sm
    refine ⟨.ref m, rfl, m, .ref pa, rfl, gK (s3 _ _ hm) v1, pa, true, rfl, ⟨_, .of (s3 _ _ h1)⟩, for_it (walk_sq (b := true) (xs := xs)) (fun i σ H4 => ∃ y3 y4, σ = [some (.ref m), some (.ref ww), some (.ref M), y3, y4] ∧ LQ K H M (fl.map (fun x => (("mend" : Str), x)) ++ ((ps.take i).filter (failable fl us)).map (fun p => (("fail" : Str), p.1))) H4) ⟨_, _, rfl, by simpa using p⟩ (fun i σ H4 hi p => ?_) (fun i x σ H4 H5 hi p y => ?_) (fun σ H4 p => ?_)⟩
    · obtain ⟨_, _, _, p⟩ := p
      exact .of (p.sm _ _ h1)
    · obtain ⟨y3, y4, rfl, p⟩ := p
      obtain ⟨rfl, hx⟩ := y
      obtain ⟨pt, hpt, t, rfl, r⟩ := e1.2 i x hx
      have s4 := p.sm
      have suc : (ps.take (i + 1)).filter (failable fl us) = (ps.take i).filter (failable fl us) ++ (if failable fl us pt = true then [pt] else []) := by
        rw [List.take_add_one, hpt, Option.toList_some, List.filter_append, filter_one]
      refine ⟨t, _, rfl, Same.sqt s4 r, rfl, .str pt.1, _, rfl, .str pt.2, [], rfl, rfl, ?_⟩
      have hlen : (fl.map (fun x => (("mend" : Str), x)) ++ ((ps.take i).filter (failable fl us)).map (fun p => (("fail" : Str), p.1))).length ≤ 1000 := by
        have h1 : ((ps.take i).filter (failable fl us)).length ≤ (ps.take i).length := List.length_filter_le ..
        simp at h1 ⊢
        omega
      have W5 := W.same s4
      have put : ∀ H6, Same H5 H6 → failable fl us pt = true → ∀ t', H6 t' = none → ∃ acc', upd H6 t' (.tup [.str "fail", .str pt.1]) M = some (.lst acc') ∧ acc'.length < sizeLine ∧ LQ K H M (fl.map (fun x => (("mend" : Str), x)) ++ ((ps.take (i + 1)).filter (failable fl us)).map (fun p => (("fail" : Str), p.1))) (upd (upd H6 t' (.tup [.str "fail", .str pt.1])) M (.lst (acc' ++ [.ref t']))) := fun H6 s6 e t' nt => by
        rw [suc, if_pos e, List.map_append, ← List.append_assoc]
        exact p.put (t := t') (p := (("fail" : Str), pt.1)) nM (s6.trans (Same.new (o := .tup [.str "fail", .str pt.1]) nt)) ⟨t', rfl, .of upd_same⟩ hlen
      have skip : ∀ H6, Same H5 H6 → ¬ failable fl us pt = true → LQ K H M (fl.map (fun x => (("mend" : Str), x)) ++ ((ps.take (i + 1)).filter (failable fl us)).map (fun p => (("fail" : Str), p.1))) H6 := fun H6 s6 e => by
        rw [suc, if_neg e, List.append_nil]
        exact p.skip s6
      refine ⟨.str pt.1, rfl, .ref ww, rfl, ww, .ref g, rfl, W5.gG, g, _, rfl, .inl (.of W5.hg), rfl, flat_sV _, !decide (pt.1 ∈ fl), by show V.bl (!inV (.str pt.1) (sV fl)) = _; rw [inV_sV], ite2 (fun ea => ?_) (fun ea => ?_)⟩
      · refine ⟨.str pt.2, rfl, rfl, decide (pt.2 = "hot"), by rw [← decStr], ite2 (fun eb => ?_) (fun eb => ?_)⟩
        · have fe : failable fl us pt = true := by unfold failable; rw [ea, eb]; rfl
          refine iteT ?_
          obtain ⟨acc, hacc, pacc⟩ := p.ex
          refine ⟨.ref M, rfl, .inl ⟨rfl, _, .of hacc⟩, .str pt.1, rfl, by show 2 ≤ sizeLine; decide, fun t' nt => ?_⟩
          obtain ⟨acc', z1, z2, z3⟩ := put _ (Same.refl _) fe t' nt
          exact ⟨M, acc', .ref t', rfl, rfl, z1, z2, _, _, rfl, z3⟩
        · refine ⟨.str pt.1, rfl, .ref ww, rfl, ww, .ref u, rfl, W5.gU, u, dS V.str us, rfl, W5.hu, fun p2 np2 => ?_⟩
          have ev : (dS V.str us).map (·.2) = sV (us.map (·.2)) := by simp [dS, sV]
          rw [ev]
          have s6 : Same H5 (upd H5 p2 (.lst (sV (us.map (·.2))))) := Same.new np2
          refine ⟨p2, _, rfl, .inl (.of upd_same), rfl, flat_sV _, decide (pt.1 ∈ us.map (·.2)), by show V.bl (inV (.str pt.1) (sV _)) = _; rw [inV_sV], ite2 (fun ec => ?_) (fun ec => ?_)⟩
          · have fe : failable fl us pt = true := by unfold failable; rw [ea, ec]; simp
            obtain ⟨acc, hacc, pacc⟩ := p.ex
            refine ⟨.ref M, rfl, .inl ⟨rfl, _, .of (s6 _ _ hacc)⟩, .str pt.1, rfl, by show 2 ≤ sizeLine; decide, fun t' nt => ?_⟩
            obtain ⟨acc', z1, z2, z3⟩ := put _ s6 fe t' nt
            exact ⟨M, acc', .ref t', rfl, rfl, z1, z2, _, _, rfl, z3⟩
          · have fe : ¬ failable fl us pt = true := by
              unfold failable
              have e1 : decide (pt.2 = "hot") = false := by simpa using eb
              have e2 : decide (pt.1 ∈ us.map (·.2)) = false := by simpa using ec
              rw [e1, e2]; simp
            exact ⟨_, _, rfl, skip _ s6 fe⟩
      · have fe : ¬ failable fl us pt = true := by
          unfold failable
          have e1 : (!decide (pt.1 ∈ fl)) = false := by simpa using ea
          rw [e1]; simp
        exact iteF ⟨_, _, rfl, skip _ (Same.refl _) fe⟩
    · obtain ⟨y3, y4, rfl, p⟩ := p
      rw [e1.1, List.take_length] at p
      obtain ⟨acc, hacc, pacc⟩ := p.ex
      have s4 := p.sm
      refine ⟨.ref M, rfl, M, acc, Str × Str, eventsOf ps fl us, partD, PartAt K H4, rfl, .of hacc, Paired.imp2 (fun _ _ r => ⟨r.dp, r⟩) pacc, PySem.W.AllAlike.of alike_partD, .inl fun d hd => ?_, fun b _ => depth_partD b, fun ys p' hy np => ?_⟩
      · obtain ⟨b, _, rfl⟩ := List.mem_map.mp hd
        exact ⟨_, _, rfl⟩
      · have s5 : Same H4 (upd H4 p' (.lst ys)) := Same.new np
        exact q _ p' ys (s4.trans s5) (s4.free np) upd_same (Paired.imp2 (fun _ _ r => PartAt.kt (Same.kt s5) r) hy)
end
end Kf

set_option Elab.async false
set_option linter.all false
set_option maxRecDepth 100000
set_option maxHeartbeats 2000000
namespace Kf
open PySem PySem.Spec PyProof.Rows L2 LamX NdefX TL
section
variable {P : Program} {w : World} {K : PySem.W.Frag} {mg : Str → Option Value} {base : Heap}
/-- the state that the law's account tells -/
def lawUs (gs : List G) (us : Uses) : Uses := (gs.filterMap spareN).map fun n => (n, (getA us n).getD emptyS)
def lawHd (gs : List G) (sn : List (Str × Int)) : List Str := (gs.filter fun g => g.isBefore && (getA sn g.name).isSome).map G.name
end
end Kf

set_option Elab.async false
set_option linter.all false
set_option maxRecDepth 100000
set_option maxHeartbeats 2000000
namespace Kf
open PySem PySem.Spec PyProof.Rows L2 LamX NdefX TL
theorem te_of {te : TE} {σ : L2.St} {H : Hp} {Q : VK} (Pv : V → Hp → Prop) (h : ∀ v H', Pv v H' → Q v H') (g : (∀ v H', Pv v H' → Q v H') → te σ H Q) : te σ H Q := g h
theorem RowOk.snoc {ps : List (Str × Str)} {gs : List G} {cs : List (Str × List Str)} {e : Str × Str} : ∀ {es : List (Str × Str)} {s : St3}, RowOk ps gs cs s es → e ∈ eventsIn ps (runSt ps gs cs s es).1 (runSt ps gs cs s es).2.1 → RowOk ps gs cs s (es ++ [e])
  | [], _, _, h => .cons h .nil
  | x :: r, s, .cons h1 h2, h => .cons h1 (RowOk.snoc h2 h)
section
variable {K : PySem.W.Frag} {d L C ww g u s : Addr} {H H1 H' : Hp} {c : Int} {fl : List Str} {us : Uses} {sn : List (Str × Int)} {m : Addr} {ps : List (Str × Str)} {cs : List (Str × List Str)} {gs : List G} {tp : Str}
theorem WAt.kp (W : WAt H ww g u s c fl us sn) (k : Kp d L H H') (D : Dr H d L C) (n1 : ww ≠ d) (n2 : u ≠ d) (n3 : s ≠ d) (n4 : g ≠ L) : WAt H' ww g u s c fl us sn := by
  obtain ⟨_, _, _, _, _, D⟩ := D
  exact ⟨k _ _ W.hw n1 (ne_of W.hw D.hL (by intro z; cases z)), k _ _ W.hg (ne_of W.hg D.hd (by intro z; cases z)) n4, k _ _ W.hu n2 (ne_of W.hu D.hL (by intro z; cases z)), k _ _ W.hs n3 (ne_of W.hs D.hL (by intro z; cases z)), W.wu, W.su⟩
theorem Dr.kw (D : Dr H d L C) (k : Kw ww g u H H') (W : WAt H ww g u s c fl us sn) (n1 : ww ≠ d) (n2 : u ≠ d) (n3 : g ≠ L) (n4 : g ≠ C) : Dr H' d L C := by
  obtain ⟨ls, cs, r, t, m, D⟩ := D
  exact ⟨ls, cs, r, t, m, { D with hd := k _ _ D.hd n1.symm (ne_of D.hd W.hg (by intro z; cases z)) n2.symm, hL := k _ _ D.hL (ne_of D.hL W.hw (by intro z; cases z)) n3.symm (ne_of D.hL W.hu (by intro z; cases z)), hC := k _ _ D.hC (ne_of D.hC W.hw (by intro z; cases z)) n4.symm (ne_of D.hC W.hu (by intro z; cases z)) }⟩
/-- the account is new: what was there before is kept -/
theorem Kp.kw (a : Kp d L H H1) (k : Kw ww g u H1 H') (n1 : H ww = none) (n2 : H g = none) (n3 : H u = none) : Kp d L H H' := fun b o e m1 m2 => k b o (a b o e m1 m2) (ne_of_none e n1) (ne_of_none e n2) (ne_of_none e n3)
theorem M4.mwt (M : M4 K d L H m ps cs gs tp) (D : Dr H d L C) (k : Kp d L H H') (n1 : H ww = none) (n2 : H g = none) (n3 : H u = none) : MWt K H' m ww g u ps cs gs tp := by
  have M' := M.kp D k
  obtain ⟨pa, ca, ga, xs, zs, ys, hm, h1, e1, h2, e2, h3, e3, q0, q1, q2, q3⟩ := M.ex
  have kt := k.kt (K := K) D
  have mL : m ≠ L := by
    obtain ⟨_, _, _, _, _, D⟩ := D
    exact ne_of hm D.hL (by intro z; cases z)
  exact ⟨_, pa, ca, ga, xs, zs, ys, k _ _ hm q0 mL, mk4_p, mk4_c, mk4_g, mk4_t, k.lst D q1 h1, e1.imp fun _ _ r => PartAt.kt kt r, k.lst D q2 h2, e2.imp fun _ _ r => CauseAt.kt kt r, k.lst D q3 h3, e3.imp fun _ _ r => GateAt.kt kt r, ne_of_none hm n1, ne_of_none hm n3, ne_of_none h1 n2, ne_of_none h2 n2, ne_of_none h3 n2⟩
end
section
variable {P : Program} {w : World} {K : PySem.W.Frag} {mg : Str → Option Value} {base : Heap}
def isFail (e : Str × Str) : Bool := decide (e.1 = "fail")
def spRow (K : PySem.W.Frag) : Sp := fun vs H Q _ => ∃ d L C m ps cs gs tp n, vs = [.ref d, .ref m, .int (n : Nat)] ∧ Dr H d L C ∧ M4 K d L H m ps cs gs tp ∧ PlantOk ps gs cs tp ∧ n ≤ 60 ∧
  ∀ H' p xs es, Dr H' d L C → Kp d L H H' → SqT K H' p xs → Paired (PartAt K H') xs es → RowOk ps gs cs (st0 gs) es → es.length ≤ n → Q (.ref p) H'
theorem ok_law_row {f : Addr} {fd : FuncData} (F : L2.Fun K "_law_row" "_law_row" s__law_row f fd) (T : Nm mg) (C__law_fresh : Cal P w K mg base 4 "_law_fresh" ["m"] (spFresh K)) (C__law_can : Cal P w K mg base 1 "_law_can" ["m", "w"] (spCan K)) (C__law_take : Cal P w K mg base 1 "_law_take" ["draw", "size"] spTake)
    (C__law_pick : Cal P w K mg base 2 "_law_pick" ["draw", "some"] (spPick2 K)) (C__law_event : Cal P w K mg base 4 "_law_event" ["m", "w", "deed"] (spEvent K)) : FnOk P w K mg base CX0 5 f fd ["draw", "m", "many"] (spRow K) := by
  refine F.ok sc__law_row (fun vs H Q E h => ?_) (fun cdv A outer s H vs Q E hr h => ?_)
  · obtain ⟨d, L, C, m, ps, cs, gs, tp, n, rfl, _⟩ := h
    rfl
  · obtain ⟨d, L1, Cc, m, ps, cs, gs, tp, n, rfl, D, hM, ok, hn, q⟩ := h
    have hu := hu_of hr
    have hu64 := hr.units
    have gp : GP (ps.map (·.1)) gs := ok.gates.each
    have N := nmsOk_of gp
    have hf := full_of ok
    have hpl := ok.parts.hi
    have hgl := ok.gates.hi
    have eF : seat0 gs = firstU gs := first_eq N.gn hf
    refine ⟨_, (pss_cons (ps_par (i := 3) (j := 4) (by rfl) sc__law_row.nd rfl rfl (by decide) rfl rfl (pa_cons (pe_cal C__law_fresh (by decide) hr (by rfl) (pa_cons (pv 1) pa_nil)) (pa_cons (pe_lst pa_nil) pa_nil)) (by rfl))
 (pss_cons (ps_for PassesOwn.never rfl (pi_range1 rfl T.n_range (pa_cons (pv 2) pa_nil)) (pg_name (i := 5) sc__law_row.nd rfl (.inl rfl))
 (pss_cons (ps_set (i := 6) sc__law_row.nd rfl (.inl rfl) (pe_cal C__law_can (by decide) hr (by rfl) (pa_cons (pv 1) (pa_cons (pv 3) pa_nil))))
 (pss_cons (ps_setLc (i := 7) (own := [("deed", 8)]) (g := gName 8) (by rfl) sc__law_row.nd rfl rfl (sw_true rfl rfl rfl (by decide +kernel)) (pi_sq (pv 6)) (blkOk_by (own := [("deed", 8)]) (N := ["draw", "m", "many", "w", "found", "k", "some", "fails", "deed"]) (sc := defScope s__law_row) (by decide +kernel)) (fun _ _ _ _ _ => pg_name (i := 8) sc__law_row.nd rfl (.inl rfl)) (fun _ _ _ _ _ => pts_one (pt_cmpR op_eq (pe_ix (ix_sqK (K := K) rfl) (pv 8) pe_int (fun _ _ => rfl)) pe_str (nomark _))) (fun _ _ _ _ _ => (pv 8)))
 (pss_cons (ps_if (pt_cmpR (op_eqD hu64) (pv 6) (pe_lst pa_nil) (nomark _))
 (pss_one (ps_ret (pe_callTy (call_tupQ (K := K) rfl) (by rfl) T.n_tuple (by decide +kernel) (pa_cons (pv 4) pa_nil))))
 pss_nil)
 (pss_cons (ps_set (i := 8) sc__law_row.nd rfl (.inl rfl) (pe_cal C__law_pick (by decide) hr (by rfl) (pa_cons (pv 0) (pa_cons (pe_ifExp (PW.pt (pw_and (pt_cmpR (op_neD hu64) (pv 7) (pe_lst pa_nil) (nomark _)) (pw_and1 (pt_cmpR op_gt (pe_cal C__law_take (by decide) hr (by rfl) (pa_cons (pv 0) (pa_cons pe_int pa_nil))) pe_int (nomark _))))) (pv 7) (pv 6)) pa_nil))))
 (pss_cons (ps_expr (pe_cal C__law_event (by decide) hr (by rfl) (pa_cons (pv 1) (pa_cons (pv 3) (pa_cons (pv 8) pa_nil)))))
 (pss_one (ps_expr (pe_bm PySem.F.plainAttrs_list PySem.F.slot_list_append PySem.F.type_list_append mt_append (pv 4) (pa_cons (pv 8) pa_nil))))))))))
 (pss_one (ps_ret (pe_callTy (call_tupQ (K := K) rfl) (by rfl) T.n_tuple (by decide +kernel) (pa_cons (pv 4) pa_nil)))))), ?_⟩
    obtain ⟨pa, ca, ga, xs, zs, ys, hm, h1, e1, h2, e2, h3, e3, q0, q1, q2, q3⟩ := hM.ex
    refine ⟨.ref m, rfl, m, _, pa, xs, ps, ga, ys, gs, rfl, hm, mk4_p, mk4_g, .inl (.of h1), e1, .inl (.of h3), e3, by rw [eF]; exact ok.top.tell, fun n' qs hq => ?_, fun H1 ww g u sA s1 nww ng nu ns W1 => ?_⟩
    · have := gp.pool n' qs hq
      rw [List.length_map] at this
      omega
    have si0 := si_first ok
    have R0 : Rel ps gs (st0 gs) [] (since0 ps gs) 0 := Rel.first ok
    have W1' : WAt H1 ww g u sA 0 [] (st0 gs).2.1 (since0 ps gs) := by
      show WAt H1 ww g u sA 0 [] (firstU gs) (since0 ps gs)
      rw [← eF]
      exact W1
    have wsA : ww ≠ sA := fun z => by
      have e := W1.hs
      rw [← z, W1.hw] at e
      have e2 := HO.dK.inj (Option.some.inj e)
      have v1 : valV (wkv g u sA 0) (.inr "gone") = valV (dS V.int (since0 ps gs)) (.inr "gone") := by rw [← e2]
      rw [wk_gone, valV_dS] at v1
      cases hz : getA (since0 ps gs) "gone" with
      | none => rw [hz] at v1; cases v1
      | some z0 => rw [hz] at v1; cases v1
    obtain ⟨_, _, _, _, _, D'⟩ := D
    have nd1 : ww ≠ d := (ne_of_none D'.hd nww).symm
    have nd2 : u ≠ d := (ne_of_none D'.hd nu).symm
    have nd3 : sA ≠ d := (ne_of_none D'.hd ns).symm
    have nd4 : g ≠ L1 := (ne_of_none D'.hL ng).symm
    have nd5 : g ≠ Cc := (ne_of_none D'.hC ng).symm
    have D : Dr H d L1 Cc := ⟨_, _, _, _, _, D'⟩
    have snl0 : (since0 ps gs).length ≤ 1000 := by
      refine Nat.le_trans since_le ?_
      have : (lawTr [] (seat0 gs) [] 0 ps gs).length ≤ ps.length + gs.length := tellM_le
      omega
    refine ⟨Nat.zero_le _, fun M nM => ?_⟩
    have s2 : Same H1 (upd H1 M (.lst [])) := Same.new nM
    have nMg : M ≠ g := (ne_of_none W1.hg nM).symm
    have nM0 : H M = none := s1.free nM
    have nML : M ≠ L1 := (ne_of_none D'.hL nM0).symm
    have nMC : M ≠ Cc := (ne_of_none D'.hC nM0).symm
    refine ⟨_, _, rfl, ?_⟩
    dsimp only [tSeq]
    refine ⟨.int (n : Int), rfl, n, rfl, by omega, by omega, for_it (walk_range (lo := 0) (n := n)) (fun i σ H2 => ∃ sA2 c2 gone sn acc es y5 y6 y7 y8, σ = [some (.ref d), some (.ref m), some (.int (n : Int)), some (.ref ww), some (.ref M), y5, y6, y7, y8] ∧ WAt H2 ww g u sA2 c2 gone (runSt ps gs cs (st0 gs) es).2.1 sn ∧ ww ≠ sA2 ∧ sA2 ≠ d ∧ SI ps gs cs tp (runSt ps gs cs (st0 gs) es) ∧ Rel ps gs (runSt ps gs cs (st0 gs) es) gone sn c2 ∧ sn.length ≤ 1000 ∧
        H2 M = some (.lst acc) ∧ Paired (PartAt K H2) acc es ∧ RowOk ps gs cs (st0 gs) es ∧ es.length ≤ i ∧ Dr H2 d L1 Cc ∧ Kp d L1 H H2)
      ⟨sA, 0, [], since0 ps gs, [], [], _, _, _, _, rfl, W1'.same s2, wsA, nd3, si0, R0, snl0, upd_same, .nil, .nil, Nat.le_refl _, D.same (s1.trans s2), Same.kp (s1.trans s2)⟩ (fun i σ H2 hi p => trivial) (fun i z σ H2 H3 hi p y => ?_) (fun σ H2 p => ?_)⟩
    · obtain ⟨sA2, c2, gone, sn, acc, es, y5, y6, y7, y8, rfl, W2, ws2, nsd, si, R, snl, hM2, hacc, row, les, D2, k2⟩ := p
      obtain ⟨rfl, rfl⟩ := y
      generalize est : runSt ps gs cs (st0 gs) es = st at *
      have glen : gone.length ≤ 8 := by
        have p : gone.Perm st.1 := (List.perm_ext_iff_of_nodup R.nd si.fok.nd).mpr R.mem
        have := si.fok.len
        rw [p.length_eq]
        omega
      have ul : st.2.1.length ≤ 8 := si.ok.ul
      have mw2 := hM.mwt (ww := ww) (g := g) (u := u) D k2 nww ng nu
      refine ⟨.ref m, rfl, .ref ww, rfl, m, ww, ps, cs, gs, tp, g, u, sA2, c2, gone, st.2.1, sn, rfl, mw2, W2, by omega, by omega, by omega, fun H4 p2 xs2 s4 np2 hp2 hxs2 => ?_⟩
      rw [R.can si] at hxs2
      have ev16 : (eventsIn ps st.1 st.2.1).length ≤ 16 := by
        have h1 := si.fok.len
        have h3 : (ps.filter (failable st.1 st.2.1)).length ≤ ps.length := List.length_filter_le ..
        show (srtP (eventsOf ps st.1 st.2.1)).length ≤ 16
        rw [(srtP_perm _).length_eq]
        unfold eventsOf
        rw [List.length_append, List.length_map, List.length_map]
        omega
      generalize eev : eventsIn ps st.1 st.2.1 = evs at *
      have elx : xs2.length = evs.length := Paired.length hxs2
      -- fails
      refine ⟨.ref p2, rfl, p2, true, rfl, ⟨_, .of hp2⟩, fun N' nN => ?_⟩
      refine lc_it (walk_sq (b := true) (xs := xs2)) (fun i H => LQ K H4 N' ((evs.take i).filter isFail) H) (LQ.zero nN) (fun _ _ _ p => Same.sqb (b := true) p.sm (.of hp2)) (fun i' x' H5 H6 hi' p5 y => ?_) (fun H5 p5 => ?_)
      · obtain ⟨rfl, hx'⟩ := y
        obtain ⟨e2, he2, t, rfl, ht⟩ := paired_get hxs2 hx'
        have ht' := Same.sqt p5.sm ht
        have suc : (evs.take (i' + 1)).filter isFail = (evs.take i').filter isFail ++ (if isFail e2 = true then [e2] else []) := by
          rw [List.take_add_one, he2, Option.toList_some, List.filter_append, filter_one]
        refine ⟨rfl, .ref t, rfl, t, _, 0, .str e2.1, rfl, rfl, .inr ht', at0, rfl, isFail e2, by rw [isFail, ← decStr], ite2 (fun e => ?_) (fun e => ?_)⟩
        · refine ⟨.ref t, rfl, ?_⟩
          rw [suc, if_pos e]
          refine p5.put nN (Same.refl _) ⟨t, rfl, ht'⟩ ?_
          have z1 : ((evs.take i').filter isFail).length ≤ (evs.take i').length := List.length_filter_le ..
          rw [List.length_take] at z1
          omega
        · rw [suc, if_neg e, List.append_nil]
          exact p5.skip (Same.refl _)
      rw [elx, List.take_length] at p5
      obtain ⟨ac2, hac2, pac2⟩ := p5.ex
      have s45 := s4.trans p5.sm
      have hp5 := p5.sm _ _ hp2
      have hxs5 : Paired (PartAt K H5) xs2 evs := Paired.imp2 (fun _ _ r => PartAt.kt (Same.kt p5.sm) r) hxs2
      -- some == []
      refine ⟨.ref p2, rfl, Nat.zero_le _, fun l nl => ?_⟩
      have s6' : Same H5 (upd H5 l (.lst [])) := Same.new nl
      have shE : ∀ {l' : List (Str × Str)}, (∀ e ∈ l', e ∈ evs) → SeqAt.shaped (.list (l'.map partD)) = true := fun h => shaped_list fun d hd => by
        obtain ⟨e2, he2, rfl⟩ := List.mem_map.mp hd
        exact (evSh si.ok.pl.parts si.fok (evIn (by rw [eev]; exact h _ he2))).up (by decide)
      refine ⟨.list (evs.map partD), .list [], .lst (.of (s6' _ _ hp5)) (dp_pairs (Paired.imp2 (fun _ _ r => PartAt.kt (Same.kt s6') r) hxs5)), .lst (.of upd_same) .nil, shE fun _ h => h, by decide, evs.isEmpty, by cases evs <;> simp [PyData.eqv, PyData.eqvAll], ?_⟩
      have s46 := s45.trans s6'
      generalize upd H5 l (.lst []) = H6 at s6' s46
      have k6 : Kp d L1 H H6 := k2.trans (Same.kp s46)
      have D6 := D2.same s46
      have hM6 := s46 _ _ hM2
      have hacc6 : Paired (PartAt K H6) acc es := Paired.imp2 (fun _ _ r => PartAt.kt (Same.kt s46) r) hacc
      refine ite2 (fun ee => ?_) (fun ee => ?_)
      · refine ⟨.ref M, rfl, M, acc, rfl, .inl (.of hM6), fun tt H7 s7 htt => ?_⟩
        exact q H7 tt acc es (D6.same s7) (k6.trans (Same.kp s7)) htt (Paired.imp2 (fun _ _ r => PartAt.kt (Same.kt s7) r) hacc6) row (by omega)
      · refine tNext_of ?_
        have evne : evs ≠ [] := fun z => ee (by rw [z]; rfl)
        have D4 := D2.same s4
        have nL2 : N' ≠ L1 := (D4.neL nN).1
        have pL2 : p2 ≠ L1 := (D2.neL np2).1
        have hN6 := s6' _ _ hac2
        have pN6 : Paired (PartAt K H6) ac2 (evs.filter isFail) := Paired.imp2 (fun _ _ r => PartAt.kt (Same.kt s6') r) pac2
        have hp6 := s6' _ _ hp5
        have px6 : Paired (PartAt K H6) xs2 evs := Paired.imp2 (fun _ _ r => PartAt.kt (Same.kt s6') r) hxs5
        refine ⟨.ref d, rfl, ?_⟩
        show tIf _ _ _ _ _ _
        refine te_of (fun v H' => ∃ p3 xs3 es3, v = .ref p3 ∧ H' p3 = some (.lst xs3) ∧ Paired (PartAt K H') xs3 es3 ∧ (∀ e ∈ es3, e ∈ evs) ∧ es3 ≠ [] ∧ es3.length ≤ 16 ∧ p3 ≠ L1 ∧ Dr H' d L1 Cc ∧ Kp d L1 H6 H') (fun v H' p => ?_) (fun fin => ?_)
        rotate_left
        · refine ⟨.ref N', rfl, Nat.zero_le _, fun l2 nl2 => ?_⟩
          have s7 : Same H6 (upd H6 l2 (.lst [])) := Same.new nl2
          refine ⟨.list ((evs.filter isFail).map partD), .list [], .lst (.of (s7 _ _ hN6)) (dp_pairs (Paired.imp2 (fun _ _ r => PartAt.kt (Same.kt s7) r) pN6)), .lst (.of upd_same) .nil, shE fun _ h => (List.mem_filter.mp h).1, by decide, !(evs.filter isFail).isEmpty, by cases evs.filter isFail <;> simp [PyData.eqv, PyData.eqvAll], ite2 (fun e1 => ?_) (fun e1 => ?_)⟩
          · have D7 := D6.same s7
            refine ⟨.ref d, rfl, d, L1, Cc, 3, rfl, D7, by decide, by decide, fun H8 k8 D8 kp8 a0 a3 => ?_⟩
            have k68 : Kp d L1 H6 H8 := (Same.kp s7).trans kp8
            have kt8 := k68.kt (K := K) D6
            refine ⟨k8, 0, rfl, rfl, _, rfl, ite2 (fun e2 => ?_) (fun e2 => ?_)⟩
            · exact ⟨.ref N', rfl, fin _ _ ⟨N', ac2, _, rfl, k68.lst D6 nL2 hN6, Paired.imp2 (fun _ _ r => PartAt.kt kt8 r) pN6, fun e he => (List.mem_filter.mp he).1, fun z => by rw [z] at e1; simp at e1, Nat.le_trans (List.length_filter_le ..) ev16, nL2, D8, k68⟩⟩
            · exact ⟨.ref p2, rfl, fin _ _ ⟨p2, xs2, _, rfl, k68.lst D6 pL2 hp6, Paired.imp2 (fun _ _ r => PartAt.kt kt8 r) px6, fun e he => he, evne, ev16, pL2, D8, k68⟩⟩
          · exact iteF ⟨.ref p2, rfl, fin _ _ ⟨p2, xs2, _, rfl, s7 _ _ hp6, Paired.imp2 (fun _ _ r => PartAt.kt (Same.kt s7) r) px6, fun e he => he, evne, ev16, pL2, D6.same s7, Same.kp s7⟩⟩
        · obtain ⟨p3, xs3, es3, rfl, hp3, hxs3, hsub, hne, hle, pL, D8, k68⟩ := p
          have lx3 : xs3.length = es3.length := Paired.length hxs3
          have pos : 0 < es3.length := List.length_pos_iff.mpr hne
          refine ⟨d, L1, Cc, .ref p3, rfl, D8, .inl ⟨p3, xs3, rfl, pL, .inl (.of hp3), by omega, by omega, fun H9 ev D9 k9 hm9 => ?_⟩⟩
          obtain ⟨jj, hjj⟩ := List.mem_iff_getElem?.mp hm9
          obtain ⟨e4, he4, hpe⟩ := paired_get hxs3 hjj
          have hin := hsub e4 (List.mem_of_getElem? he4)
          have k69 : Kp d L1 H6 H9 := k68.trans k9
          have W9 := (W2.same s46).kp k69 D6 nd1 nd2 nsd nd4
          have hpe9 := PartAt.kt (k9.kt D8) hpe
          have hin' : e4 ∈ eventsIn ps st.1 st.2.1 := by rw [eev]; exact hin
          have eok := evIn hin'
          refine ⟨.ref m, rfl, .ref ww, rfl, ev, rfl, m, ww, ev, e4, ps, cs, gs, tp, st, g, u, sA2, c2, gone, sn, rfl, hM.mwt D (k6.trans k69) nww ng nu, W9, ws2, hpe9, si, eok, R, snl, fun H10 pp s2 gone' sn' kw10 W10 ws' hs2n R' snl' hpp => ?_⟩
          have hM9 := k69.lst D6 nML hM6
          have hM10 := kw10 _ _ hM9 (ne_of hM9 W9.hw (by intro z; cases z)) nMg (ne_of hM9 W9.hu (by intro z; cases z))
          refine ⟨.ref M, rfl, .inl ⟨rfl, _, .of hM10⟩, ev, rfl, M, acc, ev, rfl, rfl, hM10, small1000 (by rw [Paired.length hacc6]; omega), ?_⟩
          have kt10 := kw10.kt (K := K) W9
          have ktM : KT K H10 (upd H10 M (.lst (acc ++ [ev]))) := kt_lst hM10
          have sd : s2 ≠ d := by
            obtain ⟨_, _, _, _, _, D9'⟩ := D9
            exact (ne_of_none D9'.hd hs2n).symm
          have est' : runSt ps gs cs (st0 gs) (es ++ [e4]) = (nextOf ps gs cs st e4).1 := by rw [runSt_snoc, est]
          refine ⟨s2, c2 + 1, gone', sn', acc ++ [ev], es ++ [e4], _, _, _, _, rfl, ?_, ws', sd, ?_, ?_, snl', upd_same, Paired.app (PartAt.kt ktM (PartAt.kt kt10 hpe9)) (Paired.imp2 (fun _ _ r => PartAt.kt ktM (PartAt.kt kt10 (PartAt.kt (k69.kt D6) r))) hacc6), ?_, by simp; omega, ?_, ?_⟩
          · rw [est']
            exact W10.lset hM10 nMg
          · rw [est']
            exact (step_facts si eok).si
          · rw [est']
            exact R'
          · exact row.snoc (by rw [est]; exact hin')
          · exact (D9.kw kw10 W9 nd1 nd2 nd4 nd5).lst hM10 nML nMC _
          · exact (Kp.kw (k6.trans k69) kw10 nww ng nu).at nM0
    · obtain ⟨sA2, c2, gone, sn, acc, es, y5, y6, y7, y8, rfl, W2, ws2, nsd, si, R, snl, hM2, hacc, row, les, D2, k2⟩ := p
      refine ⟨.ref M, rfl, M, acc, rfl, .inl (.of hM2), fun tt H7 s7 htt => ?_⟩
      exact q H7 tt acc es (D2.same s7) (k2.trans (Same.kp s7)) htt (Paired.imp2 (fun _ _ r => PartAt.kt (Same.kt s7) r) hacc) row les
end
end Kf

set_option Elab.async false
set_option linter.all false
set_option maxRecDepth 100000
set_option maxHeartbeats 2000000
namespace Kf
open PySem PySem.Spec PyProof.Rows L2
/-! ### the state that the law tells is the program's -/
theorem getA_some_iff {α : Type} {l : List (Str × α)} {n : Str} : (getA l n).isSome = true ↔ KeyIn l n := by
  constructor
  · intro h
    cases e : getA l n with
    | none => rw [e] at h; cases h
    | some z => exact getA_any e
  · intro h
    obtain ⟨z, hz⟩ := getA_of_any h
    rw [hz]
    rfl
theorem lawUs_eq {gs : List G} {us : Uses} (nd : (gs.map G.name).Nodup) (e : us.map (·.1) = (initU gs).map (·.1)) : lawUs gs us = us := by
  have ei : initU gs = [] ++ (spares gs).map fun n => (n, emptyS) := init_core gs [] (by show (([] : Uses).map (·.1) ++ spares gs).Nodup; simpa using List.Sublist.nodup (spares_sub gs) nd)
  have ek : us.map (·.1) = spares gs := by
    rw [e, ei, List.nil_append, List.map_map, show ((fun x : Str × Str => x.1) ∘ fun n => (n, emptyS)) = id from rfl, List.map_id]
  have kn := keysNd_of nd e
  show (spares gs).map (fun n => (n, (getA us n).getD emptyS)) = us
  rw [← ek, List.map_map]
  conv => rhs; rw [← List.map_id us]
  refine List.map_congr_left fun p hp => ?_
  show (p.1, (getA us p.1).getD emptyS) = p
  rw [getA_of kn (m := p.1) (z := p.2) hp]
  rfl
section
variable {ps : List (Str × Str)} {gs : List G} {cs : List (Str × List Str)} {tp : Str}
theorem held_congr {tr tr' : Tr} (h : ∀ g ∈ gs, lookT tr g.name = lookT tr' g.name) : heldOf gs tr = heldOf gs tr' := by
  unfold heldOf
  congr 1
  refine List.filter_congr fun g hg => ?_
  unfold isHeld
  rw [h g hg]
theorem Rel.held {s : St3} {gone : List Str} {sn : List (Str × Int)} {c : Int} (R : Rel ps gs s gone sn c) : lawHd gs sn = heldOf gs (trIn ps gs s) := by
  unfold lawHd heldOf
  congr 1
  refine List.filter_congr fun g hg => ?_
  unfold isHeld
  congr 1
  rw [Bool.eq_iff_iff, getA_some_iff, R.key]
def HdEq (ps : List (Str × Str)) (gs : List G) (s : St3) : Prop := s.2.2 = heldOf gs (trIn ps gs s)
theorem held_first (h : PlantOk ps gs cs tp) : HdEq ps gs (st0 gs) := by
  have gp : GP (ps.map (·.1)) gs := h.gates.each
  have N := nmsOk_of gp
  have e0 : bfHeld [] = noBefore := by
    funext g tr
    simp [bfHeld, noBefore]
  show ([] : List Str) = heldOf gs (tellM (bfHeld []) [] (firstU gs) ps gs)
  rw [e0]
  unfold heldOf
  have : gs.filter (isHeld (tellM noBefore [] (firstU gs) ps gs)) = [] := List.filter_eq_nil_iff.mpr fun g hg => by
    cases g with
    | before n x y =>
      have e2 := tell_gate (bf := noBefore) (us := firstU gs) (fl := []) N local_no hg
      have e3 : lookT (tellM noBefore [] (firstU gs) ps gs) n = false := e2
      show ¬ (true && lookT _ n) = true
      rw [e3]
      simp
    | _ => simp [isHeld, G.isBefore]
  rw [this]
  rfl
theorem held_of {s' : St3} {fl : List Str} {us : Uses} {ea : Tr} (N : NmsOk ps gs) (hm : ∀ x, x ∈ s'.1 ↔ x ∈ fl) (hu : s'.2.1 = us) (hh : s'.2.2 = heldOf gs (truthsNow ps gs fl us ea)) : HdEq ps gs s' := by
  unfold HdEq
  rw [hh]
  refine held_congr fun g hg => ?_
  have k : g.name ∈ ps.map (·.1) ++ gs.map G.name := List.mem_append.mpr (.inr (List.mem_map.mpr ⟨g, hg, rfl⟩))
  have := told_again N (fl := fl) (fl' := s'.1) (us := us) (ea := ea) hm g.name k
  rw [← hh, ← hu] at this
  rw [← hu]
  exact this.symm
theorem held_next {s : St3} {e : Str × Str} (h : SI ps gs cs tp s) (he : EvOk ps s e) : HdEq ps gs (nextOf ps gs cs s e).1 := by
  have ok := h.ok
  have N := ok.nms
  have hf := full_of ok.pl
  obtain ⟨w0, n⟩ := e
  rcases he.ex with ⟨e1, e2⟩ | ⟨e1, e2, e3, _⟩
  · obtain rfl : w0 = "mend" := e1
    have en : nextOf ps gs cs s ("mend", n) = ((srtS (mendFl s.1 n), mendUs gs s.1 s.2.1 n, heldOf gs (mendTr ps gs s.1 s.2.1 s.2.2 n)), []) := if_pos rfl
    rw [en]
    exact held_of (fl := mendFl s.1 n) (us := mendUs gs s.1 s.2.1 n) (ea := trIn ps gs s) N (fun x => mem_srt) rfl rfl
  · obtain rfl : w0 = "fail" := e1
    have I0 := start_inv (us := s.2.1) (hd := s.2.2) (gs := gs) h.fok e2 e3
    have M0 : FMore ps gs (trIn ps gs s) s.1 s.2.1 n ⟨[n], s.1, [], s.2.1, trIn ps gs s⟩ := ⟨by simp, h.ui, fun m z hz _ _ => hz, fun m qs _ hz => hz, .inl ⟨rfl, rfl⟩⟩
    have M := M0.fall (cs := cs) N.gn hf (ps.length - s.1.length)
    have L := fall_end (ea := trIn ps gs s) N ok.sp ok.pl.causes (ps.length - s.1.length) ⟨[n], s.1, [], s.2.1, trIn ps gs s⟩ I0 rfl
    have eF : fall ps gs cs (trIn ps gs s) (ps.length - s.1.length) ⟨[n], s.1, [], s.2.1, trIn ps gs s⟩ = failEnd ps gs cs s.1 s.2.1 s.2.2 n := rfl
    rw [eF] at M L
    have hnow : (failEnd ps gs cs s.1 s.2.1 s.2.2 n).now = truthsNow ps gs (failEnd ps gs cs s.1 s.2.1 s.2.2 n).failed (failEnd ps gs cs s.1 s.2.1 s.2.2 n).uses (trIn ps gs s) := by
      rcases M.pos with ⟨_, h2⟩ | ⟨_, h2⟩
      · rw [L] at h2
        cases h2
      · exact h2
    have en : nextOf ps gs cs s ("fail", n) = ((srtS (failEnd ps gs cs s.1 s.2.1 s.2.2 n).failed, (failEnd ps gs cs s.1 s.2.1 s.2.2 n).uses, heldOf gs (failEnd ps gs cs s.1 s.2.1 s.2.2 n).now), (failEnd ps gs cs s.1 s.2.1 s.2.2 n).fallen) := if_neg ne_fail_mend
    rw [en]
    refine held_of (fl := (failEnd ps gs cs s.1 s.2.1 s.2.2 n).failed) (us := (failEnd ps gs cs s.1 s.2.1 s.2.2 n).uses) (ea := trIn ps gs s) N (fun x => mem_srt) rfl ?_
    show heldOf gs _ = heldOf gs _
    rw [hnow]
/-- what the law's account tells, told -/
theorem Rel.state {s : St3} {gone : List Str} {sn : List (Str × Int)} {c : Int} (h : SI ps gs cs tp s) (R : Rel ps gs s gone sn c) (hs : s.1 = srtS s.1) (hh : HdEq ps gs s) : srtS gone = s.1 ∧ lawUs gs s.2.1 = s.2.1 ∧ lawHd gs sn = s.2.2 := by
  have p : gone.Perm s.1 := (List.perm_ext_iff_of_nodup R.nd h.fok.nd).mpr R.mem
  exact ⟨(srtS_eq p).trans hs.symm, lawUs_eq h.ok.nms.gn h.ui.keys, R.held.trans hh.symm⟩
end
end Kf

set_option Elab.async false
set_option linter.all false
set_option maxRecDepth 100000
set_option maxHeartbeats 2000000
namespace Kf
open PySem PySem.Spec PyProof.Rows L2 LamX NdefX TL
/-! ### repr of a dict of truths -/
def encK : Key → PyData
  | .inl i => .int i
  | .inr x => .str x
def trD (tr : Tr) : PyData := .dict (tr.map fun p => (.str p.1, .bool p.2))
theorem encK_reads {h : Heap} (k : Key) (key : Value) (e : keyIs k key = true) : Reads h key (encK k) [] := by
  rcases keyIs_shape e with ⟨i, t, rfl, rfl⟩ | ⟨x, t, rfl, rfl⟩
  · exact .int i t
  · exact .str x t
theorem pairs_bl {h : Heap} : ∀ {tr : Tr} {vs : List (Key × Value)}, KV (dS V.bl tr) vs → PyProof.V.PairsRead h encK vs (tr.map fun p => (.str p.1, .bool p.2)) []
  | [], _, .nil => .nil
  | (n, b) :: r, (k, v) :: vs, .cons ⟨e1, e2⟩ t => by
    cases e1
    cases e2
    exact PyProof.V.PairsRead.cons (.bool b) (pairs_bl t)
theorem tr_reads {X : Cx} {pins : List (Addr × Obj)} {σ : L2.St} {H : Hp} {s : Shared} {d : Addr} {tr : Tr} (I : Inv X pins σ H s) (h : H d = some (.dK (dS V.bl tr))) : Reads s.heap (.ref d) (trD tr) [d] ∧ (d == sysModules) = false := by
  obtain ⟨hz, hs0, vs, kv, hdo⟩ := I.hok d _ h
  exact ⟨PyProof.V.reads_dictOf (fun k key e => encK_reads k key e) hdo (pairs_bl kv), hs0⟩
theorem trD_showable : ∀ tr : Tr, (trD tr).showable = true := by
  intro tr
  unfold trD PyData.showable
  induction tr with
  | nil => rfl
  | cons p r ih => simp only [List.map_cons, PyData.showableKv, PyData.showable, ih]; rfl
theorem trD_depth : ∀ tr : Tr, (trD tr).depth ≤ 1 := by
  intro tr
  unfold trD PyData.depth
  induction tr with
  | nil => simp [PyData.depthKv]
  | cons p r ih => simp only [List.map_cons, PyData.depthKv, PyData.depth] at ih ⊢; omega
def rReprT : List V → Hp → VK → Prop := fun xs H Q => ∃ (d : Addr) (tr : Tr), xs = [.ref d] ∧ H d = some (.dK (dS V.bl tr)) ∧ (trD tr).shown.length ≤ sizeLine ∧ Q (.str (trD tr).shown) H
theorem call_reprT {X : Cx} {k : Nat} (hg : X.A.guards = some []) (hr : Room k X.A) : CallR X (.builtin "repr") rReprT := by
  intro pins s σ H xs us Q I r q
  obtain ⟨d, tr, rfl, hd, hz, q⟩ := q
  obtain ⟨u, rfl, ru⟩ := r.one
  cases (show u = Value.ref d from ru)
  obtain ⟨rd, nd⟩ := tr_reads I hd
  have hu := hr.un
  have hdp := trD_depth tr
  refine repr_of_reads' rd (trD_showable tr) (fun _ hm => ?_) hg (by omega) (fun b o e => e) (fun h' u tk hk => ?_) hz
  · have := List.mem_singleton.mp hm
    rw [← this] at nd
    simp at nd
  · exact ⟨.str (trD tr).shown, H, I.kept hk, ⟨u, rfl⟩, q⟩
end Kf

set_option Elab.async false
set_option linter.all false
set_option maxRecDepth 100000
set_option maxHeartbeats 2000000
namespace Kf
open PySem PySem.Spec PyProof.Rows L2
theorem le_of_not_lt {x p : Str} (h : (!ltCps x.cps.toList p.cps.toList) = true) : PySem.W.dataLe false PyData.str p x = true := by
  have e := congrFun (congrFun (PySem.W.dataLe_str (β := Str) fun b => b) p) x
  have e2 : PySem.W.dataLe false PyData.str p x = decide (p.cps.toList ≤ x.cps.toList) := e
  rw [e2]
  rw [ltCps_eq, Bool.not_eq_true', decide_eq_false_iff_not] at h
  exact decide_eq_true (List.not_lt.mp h)
theorem rising_pairwise : ∀ (l : List Str) (p : Str), risingS p l = true → (p :: l).Pairwise fun a b => PySem.W.dataLe false PyData.str a b = true
  | [], p, _ => by simp
  | x :: r, p, h => by
    have T := PySem.W.sortLe_total (PyProof.Rows.listOrd PyProof.Rows.itemOrd) false fun b => PySem.W.keyToks (PyData.str b)
    have h' : (!ltCps x.cps.toList p.cps.toList && risingS x r) = true := h
    rw [Bool.and_eq_true] at h'
    have ih := rising_pairwise r x h'.2
    have px := le_of_not_lt h'.1
    refine List.pairwise_cons.mpr ⟨fun y hy => ?_, ih⟩
    rcases List.mem_cons.mp hy with rfl | hy
    · exact px
    · exact T.trans p x y px ((List.pairwise_cons.mp ih).1 y hy)
theorem sorted_pairwise : ∀ (l : List Str), sortedS l = true → l.Pairwise fun a b => PySem.W.dataLe false PyData.str a b = true
  | [], _ => List.Pairwise.nil
  | x :: r, h => rising_pairwise r x h
/-- two lists of the same texts in order are one -/
theorem sorted_one {a b : List Str} (p : a.Perm b) (ha : sortedS a = true) (hb : sortedS b = true) : a = b := by
  have T := PySem.W.sortLe_total (PyProof.Rows.listOrd PyProof.Rows.itemOrd) false fun b => PySem.W.keyToks (PyData.str b)
  have anti : ∀ x y, PySem.W.dataLe false PyData.str x y = true → PySem.W.dataLe false PyData.str y x = true → x = y := fun x y h1 h2 => by
    refine inj_str x y ?_
    have e1 : (!(PyProof.Rows.listOrd PyProof.Rows.itemOrd).blt (PySem.W.keyToks (.str y)) (PySem.W.keyToks (.str x))) = true := h1
    have e2 : (!(PyProof.Rows.listOrd PyProof.Rows.itemOrd).blt (PySem.W.keyToks (.str x)) (PySem.W.keyToks (.str y))) = true := h2
    rw [Bool.not_eq_true'] at e1 e2
    exact (PyProof.Rows.listOrd PyProof.Rows.itemOrd).total _ _ e2 e1
  have tot : ∀ x y, (PySem.W.dataLe false PyData.str x y || PySem.W.dataLe false PyData.str y x) = true := fun x y => by rw [Bool.or_eq_true]; exact T.total x y
  have e1 := PySem.W.Srt.the_of_perm (PySem.W.dataLe false PyData.str) T.trans tot anti p (sorted_pairwise a ha)
  have e2 := PySem.W.Srt.the_of_perm (PySem.W.dataLe false PyData.str) T.trans tot anti (List.Perm.refl b) (sorted_pairwise b hb)
  rw [e1, ← e2]
end Kf

set_option Elab.async false
set_option linter.all false
set_option maxRecDepth 100000
set_option maxHeartbeats 2000000
namespace Kf
open PySem PySem.Spec PyProof.Rows L2
section
variable {ps : List (Str × Str)} {gs : List G} {cs : List (Str × List Str)} {tp : Str}
theorem local_law {us : Uses} {sn : List (Str × Int)} {c : Int} : LocalB (lawBf us sn c) := fun n x y tr tr' h1 h2 => by
  show (lookT tr x && (lookT tr y && _)) = (lookT tr' x && (lookT tr' y && _))
  rw [h1, h2]
/-- what the law's account tells at rest is what the program tells of the state -/
theorem Rel.truths {s : St3} {gone : List Str} {sn : List (Str × Int)} {c : Int} (h : SI ps gs cs tp s) (R : Rel ps gs s gone sn c) : ∀ x ∈ ps.map (·.1) ++ gs.map G.name, lookT (lawTr gone s.2.1 sn c ps gs) x = lookT (trIn ps gs s) x := by
  have N := h.ok.nms
  have key : ∀ i, i ≤ gs.length → ∀ x ∈ ps.map (·.1) ++ (gs.take i).map G.name, lookT (lawTr gone s.2.1 sn c ps gs) x = lookT (trIn ps gs s) x := by
    intro i
    induction i with
    | zero =>
      intro _ x hx
      have hx : x ∈ ps.map (·.1) := by simpa using hx
      show lookT (tellM _ _ _ _ _) x = lookT (tellM _ _ _ _ _) x
      rw [tell_part N hx, tell_part N hx, Bool.eq_iff_iff]
      simp [R.mem]
    | succ i ih =>
      intro hi x hx
      have ih := ih (by omega)
      have hg : gs[i]? = some gs[i] := List.getElem?_eq_getElem (by omega)
      have old : x ∈ ps.map (·.1) ++ (gs.take i).map G.name ∨ x = gs[i].name := by
        rw [List.take_add_one, hg, List.map_append] at hx
        rcases List.mem_append.mp hx with h | h
        · exact .inl (List.mem_append.mpr (.inl h))
        · rcases List.mem_append.mp h with h | h
          · exact .inl (List.mem_append.mpr (.inr h))
          · exact .inr (by simpa using h)
      rcases old with h2 | rfl
      · exact ih x h2
      · have hm : gs[i] ∈ gs := List.getElem_mem _
        have rd := N.rd i _ hg
        have e1 := tell_gate (us := s.2.1) (fl := gone) N (local_law (us := s.2.1) (sn := sn) (c := c)) hm
        have e2 := tell_gate (us := s.2.1) (fl := s.1) N (local_held s.2.2) hm
        have e1' : lookT (lawTr gone s.2.1 sn c ps gs) gs[i].name = truthF (lawBf s.2.1 sn c) s.2.1 (lawTr gone s.2.1 sn c ps gs) gs[i] := e1
        have e2' : lookT (trIn ps gs s) gs[i].name = truthF (bfHeld s.2.2) s.2.1 (trIn ps gs s) gs[i] := e2
        rw [e1', e2']
        cases eg : gs[i] with
        | all n ins => rw [eg] at rd; exact all_congr fun x hx => ih x (rd x hx)
        | any n ins => rw [eg] at rd; exact any_congr fun x hx => ih x (rd x hx)
        | least n m ins =>
          rw [eg] at rd
          have := filter_congr2 (l := ins) (t := lawTr gone s.2.1 sn c ps gs) (t' := trIn ps gs s) fun x hx => ih x (rd x hx)
          show decide (m ≤ (((ins.filter (lookT (lawTr gone s.2.1 sn c ps gs))).length : Nat) : Int)) = decide (m ≤ (((ins.filter (lookT (trIn ps gs s))).length : Nat) : Int))
          rw [this]
        | before n x y =>
          rw [eg] at rd hm
          have kx : x ∈ ps.map (·.1) ++ (gs.take i).map G.name := rd.1
          have ky : y ∈ ps.map (·.1) ++ (gs.take i).map G.name := rd.2
          show (lookT (lawTr gone s.2.1 sn c ps gs) x && (lookT (lawTr gone s.2.1 sn c ps gs) y && decide ((getA sn x).getD c < (getA sn y).getD c))) = decide (n ∈ s.2.2)
          rw [ih x kx, ih y ky]
          have e3 : lookT (trIn ps gs s) n = decide (n ∈ s.2.2) := by
            have := e2'
            rw [eg] at this
            exact this
          rw [← e3]
          by_cases tx : lookT (trIn ps gs s) x = true
          · by_cases ty : lookT (trIn ps gs s) y = true
            · rw [R.bef n x y hm tx ty, tx, ty]
              rfl
            · have ty' : lookT (trIn ps gs s) y = false := by simpa using ty
              rw [ty', Bool.false_and, Bool.and_false]
              cases e4 : lookT (trIn ps gs s) n with
              | false => rfl
              | true =>
                have := (h.hd n x y hm (of_decide_eq_true (e3.symm.trans e4))).2
                exact absurd this ty
          · have tx' : lookT (trIn ps gs s) x = false := by simpa using tx
            rw [tx', Bool.false_and]
            cases e4 : lookT (trIn ps gs s) n with
            | false => rfl
            | true =>
              have := (h.hd n x y hm (of_decide_eq_true (e3.symm.trans e4))).1
              exact absurd this tx
        | spare n qs => rfl
  intro x hx
  refine key gs.length (Nat.le_refl _) x ?_
  rw [List.take_length]
  exact hx
/-- both tell of the same names, in the same order -/
theorem tell_names {bf bf' : G → Tr → Bool} {fl fl' : List Str} {us us' : Uses} : (tellM bf fl us ps gs).map (·.1) = (tellM bf' fl' us' ps gs).map (·.1) := by
  have set_keys : ∀ {l l' : Tr} {n : Str} {b b' : Bool}, l.map (·.1) = l'.map (·.1) → (setA l n b).map (·.1) = (setA l' n b').map (·.1) := fun {l l' n b b'} e => by
    by_cases h : (l.any fun p => decide (p.1 = n)) = true
    · have h' : (l'.any fun p => decide (p.1 = n)) = true := by rw [← any_keys e]; exact h
      rw [setA_keys h, setA_keys h', e]
    · have h' : ¬ (l'.any fun p => decide (p.1 = n)) = true := by rw [← any_keys e]; exact h
      unfold setA
      rw [if_neg h, if_neg h', List.map_append, List.map_append, e]
      rfl
  have parts : ∀ (l : List (Str × Str)) (a b : Tr), a.map (·.1) = b.map (·.1) → (l.foldl (part1 fl) a).map (·.1) = (l.foldl (part1 fl') b).map (·.1) := by
    intro l
    induction l with
    | nil => exact fun a b h => h
    | cons p r ih => exact fun a b h => ih _ _ (set_keys h)
  have gates : ∀ (l : List G) (a b : Tr), a.map (·.1) = b.map (·.1) → (l.foldl (tell1 bf us) a).map (·.1) = (l.foldl (tell1 bf' us') b).map (·.1) := by
    intro l
    induction l with
    | nil => exact fun a b h => h
    | cons p r ih => exact fun a b h => ih _ _ (set_keys h)
  exact gates gs _ _ (parts ps [] [] rfl)
end
end Kf

set_option Elab.async false
set_option linter.all false
set_option maxRecDepth 100000
set_option maxHeartbeats 2000000
namespace Kf
open PySem PySem.Spec PyProof.Rows L2 LamX NdefX TL
theorem key_spare {gs : List G} {us : Uses} (nd : (gs.map G.name).Nodup) (e : us.map (·.1) = (initU gs).map (·.1)) {n : Str} (h : n ∈ us.map (·.1)) : ∃ qs, G.spare n qs ∈ gs := by
  have ei : initU gs = [] ++ (spares gs).map fun n => (n, emptyS) := init_core gs [] (by show (([] : Uses).map (·.1) ++ spares gs).Nodup; simpa using List.Sublist.nodup (spares_sub gs) nd)
  rw [e, ei, List.nil_append, List.map_map, show ((fun x : Str × Str => x.1) ∘ fun n => (n, emptyS)) = id from rfl, List.map_id] at h
  unfold spares at h
  obtain ⟨g, hg, e2⟩ := List.mem_filterMap.mp h
  cases g with
  | spare m qs =>
    obtain rfl : m = n := Option.some.inj e2
    exact ⟨qs, hg⟩
  | _ => cases e2
theorem w_none : StrOk "" := by decide +kernel
theorem use_sh {ps : List (Str × Str)} {gs : List G} {cs : List (Str × List Str)} {tp : Str} {s : St3} (h : SI ps gs cs tp s) {p : Str × Str} (hp : p ∈ s.2.1) : ShOk 1 (partD p) := by
  have gp : GP (ps.map (·.1)) gs := h.ok.pl.gates.each
  have nd := (nmsOk_of gp).gn
  obtain ⟨qs, hq⟩ := key_spare nd h.ui.keys (List.mem_map.mpr ⟨p, hp, rfl⟩)
  have n1 : StrOk p.1 := GatesOk.names h.ok.pl.gates p.1 (List.mem_map.mpr ⟨_, hq, rfl⟩)
  have n2 : StrOk p.2 := by
    by_cases e : p.2 = emptyS
    · rw [e]; exact w_none
    · obtain ⟨z, g1, _, g3⟩ := h.ui.sp p.1 qs hq
      rw [getA_of (keysNd_of nd h.ui.keys) hp] at g1
      obtain rfl := Option.some.inj g1
      obtain ⟨names, ok⟩ := gp.at hq
      exact h.ok.pl.parts.names _ (ChoiceOk.sub ok.ins _ (g3 e).1)
  obtain ⟨a, b⟩ := p
  exact sh_tup fun d hd => by
    rcases List.mem_cons.mp hd with rfl | hd
    · exact sh_str n1
    · obtain rfl := List.mem_singleton.mp hd
      exact sh_str n2
theorem trD_short : ∀ {tr : Tr}, (∀ p ∈ tr, NameOk p.1) → PyData.leavesShort 13 (trD tr) = true ∧ (trD tr).bulk ≤ 20 * tr.length + 20 := by
  intro tr h
  unfold trD
  have key : PyData.leavesShortKv 13 (tr.map fun p => (PyData.str p.1, PyData.bool p.2)) = true ∧ PyData.bulkKv (tr.map fun p => (PyData.str p.1, PyData.bool p.2)) ≤ 20 * tr.length := by
    induction tr with
    | nil => exact ⟨rfl, by simp [PyData.bulkKv]⟩
    | cons p r ih =>
      obtain ⟨i1, i2⟩ := ih fun q hq => h q (List.mem_cons_of_mem _ hq)
      have n1 := h p (List.mem_cons_self ..)
      refine ⟨?_, ?_⟩
      · simp only [List.map_cons, PyData.leavesShortKv, PyData.leavesShort, i1, Bool.and_true, Bool.true_and]
        simp only [List.all_eq_true, decide_eq_true_eq]
        intro c hc
        have := n1.low c hc
        omega
      · have := n1.hi
        have e2 : p.1.length = p.1.cps.size := rfl
        simp only [List.map_cons, PyData.bulkKv, PyData.bulk, List.length_cons]
        omega
  refine ⟨by simp only [PyData.leavesShort]; exact key.1, ?_⟩
  simp only [PyData.bulk]
  omega
theorem trD_fits {tr : Tr} (h : ∀ p ∈ tr, NameOk p.1) (hl : tr.length ≤ 100) : (trD tr).shown.length ≤ sizeLine := by
  obtain ⟨h1, h2⟩ := trD_short h
  have := PyData.shown_le_bulk 13 (by decide) (trD tr) h1
  rw [sizeLine_eq]
  omega
def stD (s : St3) : PyData := .tuple [strsD s.1, .tuple (s.2.1.map partD), strsD s.2.2]
theorem eqvAll_self : ∀ {ds : List PyData}, (∀ d ∈ ds, PyData.eqv d d = true) → PyData.eqvAll ds ds = true
  | [], _ => rfl
  | d :: r, h => by
    rw [PyData.eqvAll, h d (List.mem_cons_self ..), eqvAll_self fun x hx => h x (List.mem_cons_of_mem _ hx)]
    rfl
theorem eqv_tup {ds : List PyData} (h : ∀ d ∈ ds, PyData.eqv d d = true) : PyData.eqv (.tuple ds) (.tuple ds) = true := by
  rw [PyData.eqv]
  exact eqvAll_self h
theorem eqv_str1 (z : Str) : PyData.eqv (.str z) (.str z) = true := by simp [PyData.eqv]
theorem eqv_strsD (l : List Str) : PyData.eqv (strsD l) (strsD l) = true := eqv_tup fun d hd => by
  obtain ⟨x, _, rfl⟩ := List.mem_map.mp hd
  exact eqv_str1 x
theorem eqv_parts (l : List (Str × Str)) : ∀ d ∈ l.map partD, PyData.eqv d d = true := fun d hd => by
  obtain ⟨x, _, rfl⟩ := List.mem_map.mp hd
  rw [eqv_part]
  exact decide_eq_true rfl
theorem eqv_stD (s : St3) : PyData.eqv (stD s) (stD s) = true := eqv_tup fun d hd => by
  simp only [List.mem_cons, List.not_mem_nil, or_false] at hd
  rcases hd with rfl | rfl | rfl
  · exact eqv_strsD _
  · exact eqv_tup (eqv_parts _)
  · exact eqv_strsD _
theorem eqv_listp (l : List (Str × Str)) : PyData.eqv (.list (l.map partD)) (.list (l.map partD)) = true := by
  rw [PyData.eqv]
  exact eqvAll_self (eqv_parts l)
theorem dp_refs {K : PySem.W.Frag} {H : Hp} : ∀ {ts : List Addr} {us : Uses}, Paired (fun t (p : Str × Str) => SqT K H t [.str p.1, .str p.2]) ts us → DpAll K H (ts.map V.ref) (us.map partD)
  | _, _, .nil => .nil
  | _, _, .cons h t => .cons (.tup h (.cons (.str _) (.cons (.str _) .nil))) (dp_refs t)
theorem StAt.dp {K : PySem.W.Frag} {H : Hp} {v : V} {s : St3} (h : St3At K H v s) : Dp K H v (stD s) := by
  obtain ⟨a, b, c, d, ts, rfl, h1, h2, h3, h4, h5⟩ := h.ex
  exact .tup h1 (.cons (dp_strs h2) (.cons (.tup h3.sqt (dp_refs h4)) (.cons (dp_strs h5) .nil)))
theorem st_sh {ps : List (Str × Str)} {gs : List G} {cs : List (Str × List Str)} {tp : Str} {s : St3} (h : SI ps gs cs tp s) (hh : HdEq ps gs s) : SeqAt.shaped (stD s) = true := by
  have a1 : ShOk 1 (strsD s.1) := sh_strs fun x hx => h.ok.pl.parts.names x (h.fok.sub x hx)
  have a2 : ShOk 2 (.tuple (s.2.1.map partD)) := sh_tup fun d hd => by
    obtain ⟨p, hp, rfl⟩ := List.mem_map.mp hd
    exact use_sh h hp
  have a3 : ShOk 1 (strsD s.2.2) := sh_strs fun x hx => by
    rw [hh] at hx
    obtain ⟨g, hg, rfl⟩ := List.mem_map.mp hx
    exact GatesOk.names h.ok.pl.gates _ (List.mem_map.mpr ⟨g, (List.mem_filter.mp hg).1, rfl⟩)
  have a : ShOk 3 (stD s) := sh_tup fun d hd => by
    simp only [List.mem_cons, List.not_mem_nil, or_false] at hd
    rcases hd with rfl | rfl | rfl
    · exact a1.up (by decide)
    · exact a2
    · exact a3.up (by decide)
  exact a.shaped (by decide)
end Kf

set_option Elab.async false
set_option linter.all false
set_option maxRecDepth 100000
set_option maxHeartbeats 2000000
namespace Kf
open PySem PySem.Spec PyProof.Rows L2 LamX NdefX TL
/-! ### a method called by its parameter's name -/
def gK2 (us ws : List Value) : List Value := match us, ws with | [u], [w] => [u, w] | _, _ => []
def gV2 (vs zs : List V) : List V := match vs, zs with | [v], [z] => [v, z] | _, _ => []
theorem gK2_rel {vs : List V} {us : List Value} {zs : List V} {ws : List Value} (h1 : Vals vs us) (h2 : Vals zs ws) : Vals (gV2 vs zs) (gK2 us ws) := by
  cases h1 with
  | nil => exact .nil
  | cons r t =>
    cases t with
    | nil =>
      cases h2 with
      | nil => exact .nil
      | cons r2 t2 =>
        cases t2 with
        | nil => exact .cons r (.cons r2 .nil)
        | cons _ _ => exact .nil
    | cons _ _ => exact .nil
theorem gK2_two {us ws : List Value} (h : (gK2 us ws).length = 2) : ∃ u z, us = [u] ∧ ws = [z] := by
  match us, ws, h with
  | [u], [z], _ => exact ⟨u, z, rfl, rfl⟩
def tMethK (C : Addr) (m : Str) (sp : Sp) (E : XK) (ta : TE) (tk : TA) : TE := fun σ H Q => ta σ H fun x H1 => ∃ a dx fs, x = .ref a ∧ H1 a = some (.ins C dx fs) ∧ fs.lookup m = none ∧
  tk σ H1 fun zs H2 => sp (gV2 [.ref a] zs) H2 Q E
theorem pe_methK {X : Cx} {CX : CXT} {k : Nat} {f C : Addr} {fd : FuncData} {ps ks : List Str} {sp : Sp} {E : XK} {m : Str} {pos apos : Pos} {o : Expr} {kws : List Keyword} {ta : TE} {tk : TA} {pl : Sem Bool}
    (he : PE X o ta) (c : Cls X.K C) (hm : Meth X.K C m f) (F : FnOk X.prog X.w X.K X.mg X.base CX k f fd ps sp) (hr : Room k X.A) (hb : KBinds X.K fd ps ks gK2 gV2) (hx : Passes CX X E) (hkw : PK X kws tk)
    (hall : (backToKw pos (keywordEach kws X.env)).all (·.1.isSome) = true := by rfl) (hks : (backToKw pos (keywordEach kws X.env)).filterMap (·.1) = ks := by rfl)
    (hpl : ((backTo pos (starEach [] X.env)).any (·.1) || (backToKw pos (keywordEach kws X.env)).any (·.1.isNone)) = false := by rfl)
    (ht : eval (.Call (.Attribute o m apos) [] kws pos) X.env = (do
      let ov ← eval o X.env
      standAt apos.atName
      let (f, first) ← holding [ov] (getMethod ov m pl)
      callWith pos f first (backTo pos (starEach [] X.env)) (backToKw pos (keywordEach kws X.env))) := by rfl) :
    PE X (.Call (.Attribute o m apos) [] kws pos) (tMethK C m sp E ta tk) := by
  refine ⟨fun pins s σ H Q I h => ?_⟩
  refine PySem.W.methodCall_KW (pl := pl) (thn (he.run pins s σ H _ I h) fun u s1 ⟨x, H1, I1, rx, a, dx, fs, ex, ea, l, q⟩ => ?_) ht
  subst ex
  obtain rfl : u = Value.ref a := rx
  refine getmeth_ok I1 ea c hm l ?_
  refine PySem.W.callWith_KW0 (first := [.ref a]) (h₀ := X.base) I1.ok.mod.kin hm.kp hall ?_ hpl
  refine thn (hkw.run pos pins s1 σ H1 _ I1 q) fun ws s2 ⟨zs, H2, I2, rz, q2⟩ => ⟨I2.kIn, ?_⟩
  rw [hks]
  exact run_fnk (us := [.ref a]) (vs := [.ref a]) F hr hb hx I2 (.cons rfl .nil) rz q2
/-- a method of the class at C, called by the name of its parameter -/
structure MetK (P : Program) (w : World) (K : PySem.W.Frag) (mg : Str → Option Value) (base : Heap) (k : Nat) (C : Addr) (m : Str) (ks : List Str) (sp : Sp) : Prop where
  ex : ∃ (f : Addr) (fd : FuncData) (ps : List Str), Cls K C ∧ Meth K C m f ∧ FnOk P w K mg base CX0 k f fd ps sp ∧ KBinds K fd ps ks gK2 gV2
theorem pe_metK {X : Cx} {k j : Nat} {C : Addr} {ks : List Str} {sp : Sp} {m : Str} {pos apos : Pos} {o : Expr} {kws : List Keyword} {ta : TE} {tk : TA} {pl : Sem Bool} (M : MetK X.prog X.w X.K X.mg X.base k C m ks sp) (hr : Room j X.A) (hk : k ≤ j) (he : PE X o ta) (hkw : PK X kws tk)
    (hall : (backToKw pos (keywordEach kws X.env)).all (·.1.isSome) = true := by rfl) (hks : (backToKw pos (keywordEach kws X.env)).filterMap (·.1) = ks := by rfl)
    (hpl : ((backTo pos (starEach [] X.env)).any (·.1) || (backToKw pos (keywordEach kws X.env)).any (·.1.isNone)) = false := by rfl)
    (ht : eval (.Call (.Attribute o m apos) [] kws pos) X.env = (do
      let ov ← eval o X.env
      standAt apos.atName
      let (f, first) ← holding [ov] (getMethod ov m pl)
      callWith pos f first (backTo pos (starEach [] X.env)) (backToKw pos (keywordEach kws X.env))) := by rfl) :
    PE X (.Call (.Attribute o m apos) [] kws pos) (tMethK C m sp E0 ta tk) := by
  obtain ⟨f, fd, ps, hc, hm, F, hb⟩ := M.ex
  exact pe_methK (pl := pl) he hc hm F (hr.mono hk) hb pass0 hkw hall hks hpl ht
theorem kb_do {K : PySem.W.Frag} {f : Addr} {fd : FuncData} (F : L2.Fun K "do" "Run.do" s_Run_do f fd) : KBinds K fd ["self", "event"] ["event"] gK2 gV2 := by
  obtain ⟨oc, od, kV, doc, pm, an, cdv, ct, osl, rfl, lk, hcd⟩ := F.ex
  refine ⟨fun s us ws _ hl => ?_, gK2_rel⟩
  obtain ⟨u, z, rfl, rfl⟩ := gK2_two hl
  exact .of_eq (by rfl)
theorem kb_do_all {K : PySem.W.Frag} {f : Addr} {fd : FuncData} (F : L2.Fun K "do_all" "Run.do_all" s_Run_do_all f fd) : KBinds K fd ["self", "events"] ["events"] gK2 gV2 := by
  obtain ⟨oc, od, kV, doc, pm, an, cdv, ct, osl, rfl, lk, hcd⟩ := F.ex
  refine ⟨fun s us ws _ hl => ?_, gK2_rel⟩
  obtain ⟨u, z, rfl, rfl⟩ := gK2_two hl
  exact .of_eq (by rfl)
/-! ### Run(plant=..) -/
structure MakK (P : Program) (w : World) (K : PySem.W.Frag) (mg : Str → Option Value) (base : Heap) (k : Nat) (x : Str) (C : Addr) (ps ks : List Str) (sp : Sp) : Prop where
  ex : ∃ f fd, Mk K C f ∧ mg x = some (.ref C) ∧ KBn K fd ps 1 ks (fun us ws => us ++ ws.reverse) (fun vs zs => vs ++ zs.reverse) ∧ FnOk P w K mg base CX0 k f fd ps sp
theorem pe_makK {X : Cx} {k j : Nat} {x : Str} {C : Addr} {ps ks : List Str} {sp : Sp} {p pos : Pos} {kws : List Keyword} {tk : TA} (M : MakK X.prog X.w X.K X.mg X.base k x C ps ks sp) (hk : k + 1 ≤ j) (hr : Room j X.A) (hg : Gl X x) (hkw : PK X kws tk)
    (hall : (backToKw pos (keywordEach kws X.env)).all (·.1.isSome) = true := by rfl) (hks : (backToKw pos (keywordEach kws X.env)).filterMap (·.1) = ks := by rfl) (hdb : (x == ("__debug__" : Str)) = false := by decide)
    (hpl : ((backTo pos (starEach [] X.env)).any (·.1) || (backToKw pos (keywordEach kws X.env)).any (·.1.isNone)) = false := by rfl) : PE X (.Call (.Name x p) [] kws pos) (tMakeK C 0 ks.length sp (fun vs zs => vs ++ zs.reverse) E0 tNil tk) := by
  obtain ⟨f, fd, mk, m, b, F⟩ := M.ex
  exact pe_makeK0 mk F (hr.mono hk) hg m b pass0 hkw hall hks hdb hpl
theorem l1_of {α : Type} {l : List α} (h : l.length = 1) : ∃ a, l = [a] := by
  match l, h with
  | [a], _ => exact ⟨a, rfl⟩
theorem kb_run {K : PySem.W.Frag} {f : Addr} {fd : FuncData} (F : L2.Fun K "__init__" "Run.__init__" s_Run___init__ f fd) : KBn K fd ["self", "plant"] 1 ["plant"] (fun us ws => us ++ ws.reverse) (fun vs zs => vs ++ zs.reverse) := by
  obtain ⟨oc, od, kV, doc, pm, an, cdv, ct, osl, rfl, lk, hcd⟩ := F.ex
  refine ⟨fun s us ws _ l1 l2 => ?_, fun r1 r2 => r1.append r2.reverse⟩
  obtain ⟨u, rfl⟩ := l1_of l1
  obtain ⟨z, rfl⟩ := l1_of l2
  exact .of_eq (by rfl)
section
variable {K : PySem.W.Frag} {C x : Addr} {H : Hp} {ps : List (Str × Str)} {cs : List (Str × List Str)} {gs : List G} {tp : Str}
/-! ### plants compared -/
structure PlNo (K : PySem.W.Frag) (C : Addr) : Prop where
  no : ∀ t ∈ ([.type "NoneType", .type "int", .type "str", .type "tuple", .type "list"] : List Value), PySem.W.notFirst K C t = true ∧ PySem.W.kitOne K t (.ref C) = some false
  own : PySem.W.notFirst K C (.ref C) = true
theorem PlObj.ty (h : PlObj K C H x ps gs cs tp) (c : Cls K C) (Lk : PlK K C) : TyX K H (.ref x) (.ref C) := by
  obtain ⟨dx, pa, ga, ca, xs, ys, zs, h0, _⟩ := h.ex
  exact .base (.ins h0 c Lk.ha Lk.hn Lk.ht Lk.hm)
theorem eqPl_self (ok : PlantOk ps gs cs tp) : eqPl ps gs cs tp ps gs cs tp = true := by
  unfold eqPl
  rw [SeqAt.eqv_refl _ ok.shapes.p.can, SeqAt.eqv_refl _ ok.shapes.g.can, SeqAt.eqv_refl _ ok.shapes.c.can, SeqAt.eqv_refl _ (sh_str ok.shapes.t).can]
  rfl
/-- made == other, both plants -/
theorem cmp_pl {neg : Bool} {y : Addr} {ps' : List (Str × Str)} {gs' : List G} {cs' : List (Str × List Str)} {tp' : Str} {Q : VK} (N : PlNo K C) (c : Cls K C) (Lk : PlK K C) (h : PlObj K C H x ps gs cs tp) (ok : PlantOk ps gs cs tp) (h' : PlObj K C H y ps' gs' cs' tp') (ok' : PlantOk ps' gs' cs' tp')
    (q : Q (.bl (if neg then !eqPl ps gs cs tp ps' gs' cs' tp' else eqPl ps gs cs tp ps' gs' cs' tp')) H) : rCmpI K C (spEqP K C) neg (.ref x) (.ref y) H Q := by
  obtain ⟨dx, pa, ga, ca, xs, ys, zs, h0, _⟩ := h.ex
  exact ⟨x, dx, _, _, rfl, h0, h'.ty c Lk, N.own, x, .ref y, ps, gs, cs, tp, rfl, h, ok.shapes, .inl ⟨y, ps', gs', cs', tp', rfl, h', ok'.shapes, _, rfl, q⟩⟩
end
section
variable {P : Program} {w : World} {K : PySem.W.Frag} {mg : Str → Option Value} {base : Heap}
/-! ### at, copy -/
def spAt (K : PySem.W.Frag) (C CR : Addr) (T0 : List NTab) : Sp := fun vs H Q _ => ∃ a v ps gs cs tp s, vs = [.ref a, v] ∧ PlObj K C H a ps gs cs tp ∧ St3At K H v s ∧ RunOk ps gs cs tp s.2.1 ∧ TabsN T0 H ∧
  ∀ H' x, Sm T0 H H' → H x = none → RnObj K C CR H' x ps gs cs tp s → Q (.ref x) H'
theorem ok_at {f C CR : Addr} {fd : FuncData} {T0 : List NTab} (F : L2.Fun K "at" "at" s_at f fd) (T : Nm mg) (LR : RnC K mg CR) (M : MakC P w K mg base 7 "Run" CR ["self", "plant"] (spRunInit K C CR T0)) (M_enter : C8.Met P w K mg base 6 CR "_enter" (spEnter K C CR T0) []) :
    FnOk P w K mg base CX0 9 f fd ["plant", "state"] (spAt K C CR T0) := by
  refine F.ok sc_at (fun vs H Q E h => ?_) (fun cdv A outer s H vs Q E hr h => ?_)
  · obtain ⟨a, v, ps, gs, cs, tp, s, rfl, _⟩ := h
    rfl
  · obtain ⟨a, v, ps, gs, cs, tp, s3, rfl, ho, hst, ok, hT, q⟩ := h
    have hu := hu_of hr
    refine ⟨_, (pss_cons (ps_set (i := 2) sc_at.nd rfl (.inl rfl) (pe_mak M (by decide) hr (by rfl) (pa_cons (pv 0) pa_nil)))
 (pss_cons (ps_expr (C8.pe_mt M_enter hr (by decide) (pv 2) (pa_cons (pv 1) pa_nil)))
 (pss_one (ps_ret (pv 2))))), ?_⟩
    refine ⟨.ref a, rfl, fun x dx nx ndx nex => ?_⟩
    have s1 : Same H (upd (upd H dx (.own x)) x (.ins CR dx [])) := fun b o e => by
      rw [upd_ne (ne_of_none e nx), upd_ne (ne_of_none e ndx)]
      exact e
    have T1 := hT.ext s1
    refine ⟨x, dx, a, ps, gs, cs, tp, rfl, upd_same, ho.sm (Same.sm (T := T0) s1), ok.pl, T1, fun H2 x2 hR2 => ⟨rfl, ?_⟩⟩
    obtain ⟨dx2, a2, v2, hx2, ho2, hst2⟩ := hR2.ex
    have hv2 : St3At K H2 v s3 := StAt.smx x2 upd_same (StAt.same s1 hst)
    refine ⟨.ref x, rfl, x, dx2, _, rfl, hx2, rnF_no (by decide +kernel) (by decide +kernel) (by decide +kernel), v, rfl, ⟨x, v, dx2, _, a2, ps, gs, cs, tp, s3, rfl, hx2, .inr ⟨_, _, rfl⟩, ho2, hv2, ok, x2.tb T1, fun H3 x3 hx3 => ?_⟩⟩
    have ne := ho2.ne hx2 (.inr ⟨_, _, rfl⟩)
    have sm : Sm T0 H H3 := ⟨fun b o e n => x3.kp b o (x2.kp b o (s1 _ _ e) n (ne_of_none e nx)) n (ne_of_none e nx), fun b e => s1.free (x2.nn b (x3.nn b e)), fun t => x3.tb (x2.tb (t.ext s1))⟩
    exact ⟨.ref x, rfl, q H3 x sm nx ⟨dx2, a2, v, hx3, ho2.smx x3 hx2 ne, StAt.smx x3 hx2 hv2⟩⟩
def spCopy (K : PySem.W.Frag) (C CR : Addr) (T0 : List NTab) : Sp := fun vs H Q _ => ∃ x ps gs cs tp s, vs = [.ref x] ∧ RnObj K C CR H x ps gs cs tp s ∧ RunOk ps gs cs tp s.2.1 ∧ TabsN T0 H ∧
  ∀ H' y, Sm T0 H H' → H y = none → RnObj K C CR H' y ps gs cs tp s → Q (.ref y) H'
theorem ok_copy {f C CR : Addr} {fd : FuncData} {T0 : List NTab} (F : L2.Fun K "copy" "Run.copy" s_Run_copy f fd) (T : Nm mg) (LR : RnC K mg CR) (C_at : Cal P w K mg base 9 "at" ["plant", "state"] (spAt K C CR T0)) :
    FnOk P w K mg base CX0 10 f fd ["self"] (spCopy K C CR T0) := by
  refine F.ok sc_Run_copy (fun vs H Q E h => ?_) (fun cdv A outer s H vs Q E hr h => ?_)
  · obtain ⟨x, ps, gs, cs, tp, s, rfl, _⟩ := h
    rfl
  · obtain ⟨x, ps, gs, cs, tp, s3, rfl, hR, ok, hT, q⟩ := h
    obtain ⟨dx, a, v, hx, ho, hst⟩ := hR.ex
    refine ⟨_, (pss_one (ps_ret (pe_cal C_at (by decide) hr (by rfl) (pa_cons (pe_fld (pv 0) rfl) (pa_cons (pe_fld (pv 0) rfl) pa_nil))))), ?_⟩
    exact ⟨.ref x, rfl, x, CR, dx, _, .ref a, rfl, hx, LR.cl, LR.nP, rnF_p, .ref x, rfl, x, CR, dx, _, v, rfl, hx, LR.cl, LR.nS, rnF_s, ⟨a, v, ps, gs, cs, tp, s3, rfl, ho, hst, ok, hT, q⟩⟩
end
end Kf

set_option Elab.async false
set_option linter.all false
set_option maxRecDepth 100000
set_option maxHeartbeats 2000000
namespace Kf
open PySem PySem.Spec PyProof.Rows L2 LamX NdefX TL
/-! ### a def that wants no guard around, called -/
structure CalG (P : Program) (w : World) (K : PySem.W.Frag) (mg : Str → Option Value) (base : Heap) (k : Nat) (x : Str) (ps : List Str) (sp : Sp) : Prop where
  ex : ∃ f fd, mg x = some (.ref f) ∧ PySem.W.keepIn K (.ref f) = true ∧ Binds K fd ps [] ∧ FnOkG P w K mg base k f fd ps sp
theorem pe_calG {X : Cx} {k j : Nat} {x : Str} {ps : List Str} {sp : Sp} {p pos : Pos} {e : Expr} {es : List Expr} {t : TA} (C : CalG X.prog X.w X.K X.mg X.base k x ps sp) (hG : X.A.guards = some []) (hk : k ≤ j) (hr : Room j X.A) (hg : Gl X x) (ha : PA X (e :: es) t) (hdb : (x == ("__debug__" : Str)) = false := by decide)
    (he : starEach (e :: es) X.env = (false, eval e X.env) :: starEach es X.env := by rfl) (hpl : (backTo pos (starEach es X.env)).any (·.1) = false := by rfl) : PE X (.Call (.Name x p) (e :: es) [] pos) (tCall sp [] E0 t) := by
  obtain ⟨f, fd, m, kp, hb, F⟩ := C.ex
  refine ⟨fun pins s σ H Q I h => ?_⟩
  refine wpAny_Call_Name_kw (ld_glob I hg m ?_ hdb)
  refine PySem.W.callWith_K (h₀ := X.base) I.ok.mod.kin kp (thn (ha.run pos pins s σ H _ I h) fun us s1 ⟨vs, H1, I1, r, q⟩ => ⟨I1.kIn, ?_⟩) he hpl
  have r2 : Vals (vs ++ []) (us ++ []) := r.append .nil
  have hl : (us ++ []).length = ps.length := by rw [← r2.length]; exact F.len _ _ _ _ q
  refine wpAny_call (codeAny_mono (F.run X.A X.stack s1 H1 ⟨us, []⟩ (us ++ []) (vs ++ []) Q E0 (hr.mono hk) hG I1.env0 (hb s1 us I1.kIn hl) r2 q) fun r s' hq => ?_)
  cases r with
  | error e => exact pass0 pins σ H1 s1 e s' I1 hq
  | ok fl =>
    cases fl with
    | ret u => exact I1.after hq
    | next => exact False.elim hq
    | brk => exact False.elim hq
    | cont => exact False.elim hq
/-! ### what stands at each turn, the runs apart -/
/-- the plant's lists are others than M -/
def NoM (H : Hp) (m M : Addr) : Prop := ∀ kvs pa, H m = some (.dK kvs) → (valV kvs (.inr "parts") = some (.ref pa) ∨ valV kvs (.inr "causes") = some (.ref pa) ∨ valV kvs (.inr "gates") = some (.ref pa)) → pa ≠ M
theorem NoM.to {H H' : Hp} {m M : Addr} {o : HO} (n : NoM H m M) (e : H m = some o) (e' : H' m = some o) : NoM H' m M := fun kvs pa h1 h2 => n kvs pa (by rw [e, ← e', h1]) h2
theorem NoM.new {K : PySem.W.Frag} {H : Hp} {m ww g u M : Addr} {ps : List (Str × Str)} {cs : List (Str × List Str)} {gs : List G} {tp : Str} (h : MWt K H m ww g u ps cs gs tp) (n : H M = none) : NoM H m M := by
  obtain ⟨kvs, pa, ca, ga, xs, zs, ys, hm, v1, v2, v3, v4, h1, e1, h2, e2, h3, e3, _⟩ := h.ex
  intro kvs' b hk hv
  rw [hm] at hk
  cases hk
  rcases hv with hv | hv | hv
  · rw [v1] at hv
    cases hv
    exact ne_of_none h1 n
  · rw [v2] at hv
    cases hv
    exact ne_of_none h2 n
  · rw [v3] at hv
    cases hv
    exact ne_of_none h3 n
structure Bx (K : PySem.W.Frag) (T0 : List NTab) (C : Addr) (H : Hp) (d L1 Cc m ww g u sA pl r M : Addr) (c : Int) (gone : List Str) (us : Uses) (sn : List (Str × Int)) (ps : List (Str × Str)) (cs : List (Str × List Str)) (gs : List G) (tp : Str) (xs : List V) (es : List (Str × Str)) (acc : List V) (fls : List (List Str)) : Prop where
  D : Dr H d L1 Cc
  T : TabsN T0 H
  mw : MWt K H m ww g u ps cs gs tp
  W : WAt H ww g u sA c gone us sn
  P : PlObj K C H pl ps gs cs tp
  hM : H M = some (.lst acc)
  ac : Paired (TxtsAt K H) acc fls
  hr : SqT K H r xs
  ev : Paired (PartAt K H) xs es
  ws : ww ≠ sA
  n1 : ww ≠ d
  n2 : u ≠ d
  n3 : g ≠ L1
  n4 : g ≠ Cc
  n5 : M ≠ g
  n6 : M ≠ L1
  n7 : M ≠ Cc
  snl : sn.length ≤ 1000
  nM : NoM H m M
theorem TxtsAt.kt {K : PySem.W.Frag} {H H' : Hp} {v : V} {l : List Str} (k : KT K H H') (h : TxtsAt K H v l) : TxtsAt K H' v l := by
  obtain ⟨b, e, z⟩ := h
  exact ⟨b, e, k _ _ z⟩
section
variable {K : PySem.W.Frag} {T0 : List NTab} {C CR : Addr} {H H' : Hp} {d L1 Cc m ww g u sA pl r M x y : Addr} {c : Int} {gone : List Str} {us : Uses} {sn : List (Str × Int)} {ps : List (Str × Str)} {cs : List (Str × List Str)} {gs : List G} {tp : Str} {xs : List V} {es : List (Str × Str)} {acc : List V} {fls : List (List Str)}
  {ps' : List (Str × Str)} {cs' : List (Str × List Str)} {gs' : List G} {tp' : Str} {s' : St3}
theorem MWt.all (h : MWt K H m ww g u ps cs gs tp) (kt : KT K H H') (kd : ∀ {b : Addr} {kvs : List (Key × V)}, H b = some (.dK kvs) → H' b = some (.dK kvs)) (kl : ∀ {b : Addr} {zs : List V}, H b = some (.lst zs) → H' b = some (.lst zs)) : MWt K H' m ww g u ps cs gs tp := by
  obtain ⟨kvs, pa, ca, ga, xs, zs, ys, hm, v1, v2, v3, v4, h1, e1, h2, e2, h3, e3, n⟩ := h.ex
  exact ⟨kvs, pa, ca, ga, xs, zs, ys, kd hm, v1, v2, v3, v4, kl h1, e1.imp fun _ _ r => PartAt.kt kt r, kl h2, e2.imp fun _ _ r => CauseAt.kt kt r, kl h3, e3.imp fun _ _ r => GateAt.kt kt r, n⟩
theorem Bx.sm (b : Bx K T0 C H d L1 Cc m ww g u sA pl r M c gone us sn ps cs gs tp xs es acc fls) (s : Sm T0 H H') : Bx K T0 C H' d L1 Cc m ww g u sA pl r M c gone us sn ps cs gs tp xs es acc fls :=
  have kl : ∀ {b : Addr} {zs : List V}, H b = some (.lst zs) → H' b = some (.lst zs) := fun e => s.lst e (by intro _ z; cases z)
  have kd : ∀ {b : Addr} {zs : List (Key × V)}, H b = some (.dK zs) → H' b = some (.dK zs) := fun e => s.lst e (by intro _ z; cases z)
  have nM : NoM H' m M := let ⟨_, _, _, _, _, _, _, hm, _⟩ := b.mw.ex; b.nM.to hm (kd hm)
  ⟨b.D.sm s, s.tb b.T, b.mw.all s.kt kd kl, ⟨kd b.W.hw, kl b.W.hg, kd b.W.hu, kd b.W.hs, b.W.wu, b.W.su⟩, b.P.sm s, kl b.hM, Paired.imp2 (fun _ _ r => TxtsAt.kt s.kt r) b.ac, s.sqt b.hr, Paired.imp2 (fun _ _ r => PartAt.kt s.kt r) b.ev, b.ws, b.n1, b.n2, b.n3, b.n4, b.n5, b.n6, b.n7, b.snl, nM⟩
theorem Bx.smx (b : Bx K T0 C H d L1 Cc m ww g u sA pl r M c gone us sn ps cs gs tp xs es acc fls) (hR : RnObj K C CR H x ps' gs' cs' tp' s') (s : SmX x T0 H H') : Bx K T0 C H' d L1 Cc m ww g u sA pl r M c gone us sn ps cs gs tp xs es acc fls := by
  obtain ⟨dx, a, v, hx, _, _⟩ := hR.ex
  have kt := s.kt (K := K) hx
  have kl : ∀ {b : Addr} {zs : List V}, H b = some (.lst zs) → H' b = some (.lst zs) := fun e => s.kp _ _ e (by intro _ z; cases z) (ne_of e hx (by intro z; cases z))
  have kd : ∀ {b : Addr} {zs : List (Key × V)}, H b = some (.dK zs) → H' b = some (.dK zs) := fun e => s.kp _ _ e (by intro _ z; cases z) (ne_of e hx (by intro z; cases z))
  have kT : ∀ {l : Addr} {xs : List V}, SqT K H l xs → SqT K H' l xs := fun e => kt _ _ e
  have D : Dr H' d L1 Cc := by
    obtain ⟨ls, cs, r, t, m, D⟩ := b.D
    exact ⟨ls, cs, r, t, m, { D with hd := kd D.hd, hL := kl D.hL, hC := kl D.hC }⟩
  have nM : NoM H' m M := let ⟨_, _, _, _, _, _, _, hm, _⟩ := b.mw.ex; b.nM.to hm (kd hm)
  exact ⟨D, s.tb b.T, b.mw.all kt kd kl, ⟨kd b.W.hw, kl b.W.hg, kd b.W.hu, kd b.W.hs, b.W.wu, b.W.su⟩, b.P.smx s hx (b.P.ne hx (.inr ⟨_, _, rfl⟩)), kl b.hM, Paired.imp2 (fun _ _ r => TxtsAt.kt kt r) b.ac, kT b.hr, Paired.imp2 (fun _ _ r => PartAt.kt kt r) b.ev, b.ws, b.n1, b.n2, b.n3, b.n4, b.n5, b.n6, b.n7, b.snl, nM⟩
theorem RnObj.smy (h : RnObj K C CR H y ps gs cs tp s') {s'' : St3} (hR : RnObj K C CR H x ps' gs' cs' tp' s'') (s : SmX x T0 H H') (n : y ≠ x) : RnObj K C CR H' y ps gs cs tp s' := by
  obtain ⟨dx, a, v, hx, _, _⟩ := hR.ex
  obtain ⟨dy, ay, vy, hy, ho, hs⟩ := h.ex
  exact ⟨dy, ay, vy, s.kp _ _ hy (by intro _ z; cases z) n, ho.smx s hx (ho.ne hx (.inr ⟨_, _, rfl⟩)), StAt.smx s hx hs⟩
theorem tabs_kw (W : WAt H ww g u sA c gone us sn) (k : Kw ww g u H H') (t : TabsN T0 H) : TabsN T0 H' := fun p hp => by
  obtain ⟨ps, a1, a2, a3⟩ := t p hp
  refine ⟨ps, k _ _ a1 (ne_of a1 W.hw (by intro z; cases z)) (ne_of a1 W.hg (by intro z; cases z)) (ne_of a1 W.hu (by intro z; cases z)), a2, fun p' cv hc => ?_⟩
  obtain ⟨c, e1, e2⟩ := a3 p' cv hc
  exact ⟨c, e1, k _ _ e2 (ne_of e2 W.hw (by intro z; cases z)) (ne_of e2 W.hg (by intro z; cases z)) (ne_of e2 W.hu (by intro z; cases z))⟩
theorem RnObj.kw {s : St3} (h : RnObj K C CR H x ps gs cs tp s) (W : WAt H ww g u sA c gone us sn) (k : Kw ww g u H H') : RnObj K C CR H' x ps gs cs tp s := by
  obtain ⟨dx, a, v, h0, h1, h2⟩ := h.ex
  have kt := k.kt (K := K) W
  have ki : ∀ {b C dx : Addr} {fs : List (Str × V)}, H b = some (.ins C dx fs) → H' b = some (.ins C dx fs) := fun e => k _ _ e (ne_of e W.hw (by intro z; cases z)) (ne_of e W.hg (by intro z; cases z)) (ne_of e W.hu (by intro z; cases z))
  obtain ⟨sa, sb, sc, sd, ts, e, t1, t2, ⟨o, t3, t3'⟩, t4, t5⟩ := h2.ex
  exact ⟨dx, a, v, ki h0, h1.kt kt fun _ _ _ e => ki e, sa, sb, sc, sd, ts, e, kt _ _ t1, kt _ _ t2, ⟨o, k _ _ t3 (ne_of t3 W.hw (by intro z; cases z)) (ne_of t3 W.hg (by intro z; cases z)) (ne_of t3 W.hu (by intro z; cases z)), t3'⟩, Paired.imp2 (fun _ _ r => kt _ _ r) t4, kt _ _ t5⟩
theorem RnObj.lset {s : St3} {l l' : List V} (h : RnObj K C CR H x ps gs cs tp s) (hM : H M = some (.lst l)) : RnObj K C CR (upd H M (.lst l')) x ps gs cs tp s := by
  obtain ⟨dx, a, v, h0, h1, h2⟩ := h.ex
  exact ⟨dx, a, v, by rw [upd_ne (ne_of h0 hM (by intro z; cases z))]; exact h0, h1.kt (kt_lst hM) fun _ _ _ e => by rw [upd_ne (ne_of e hM (by intro z; cases z))]; exact e, StAt.lset h2 hM⟩
/-- an event by the law's own account -/
theorem Bx.kw {sA' : Addr} {c' : Int} {gone' : List Str} {us' : Uses} {sn' : List (Str × Int)} (b : Bx K T0 C H d L1 Cc m ww g u sA pl r M c gone us sn ps cs gs tp xs es acc fls) (k : Kw ww g u H H') (W : WAt H' ww g u sA' c' gone' us' sn') (ws : ww ≠ sA') (snl : sn'.length ≤ 1000) : Bx K T0 C H' d L1 Cc m ww g u sA' pl r M c' gone' us' sn' ps cs gs tp xs es acc fls := by
  have kt := k.kt (K := K) b.W
  have ki : ∀ {b C dx : Addr} {fs : List (Str × V)}, H b = some (.ins C dx fs) → H' b = some (.ins C dx fs) := fun e => k _ _ e (ne_of e b.W.hw (by intro z; cases z)) (ne_of e b.W.hg (by intro z; cases z)) (ne_of e b.W.hu (by intro z; cases z))
  have nM : NoM H' m M := let ⟨_, _, _, _, _, _, _, hm, _, _, _, _, _, _, _, _, _, _, m1, m2, _⟩ := b.mw.ex; b.nM.to hm (k _ _ hm m1 (ne_of hm b.W.hg (by intro z; cases z)) m2)
  exact ⟨b.D.kw k b.W b.n1 b.n2 b.n3 b.n4, tabs_kw b.W k b.T, b.mw.kw k b.W, W, b.P.kt kt fun _ _ _ e => ki e, k _ _ b.hM (ne_of b.hM b.W.hw (by intro z; cases z)) b.n5 (ne_of b.hM b.W.hu (by intro z; cases z)), Paired.imp2 (fun _ _ r => TxtsAt.kt kt r) b.ac, kt _ _ b.hr, Paired.imp2 (fun _ _ r => PartAt.kt kt r) b.ev, ws, b.n1, b.n2, b.n3, b.n4, b.n5, b.n6, b.n7, snl, nM⟩
/-- one more told -/
theorem Bx.put {v : V} {fl : List Str} (b : Bx K T0 C H d L1 Cc m ww g u sA pl r M c gone us sn ps cs gs tp xs es acc fls) (hv : TxtsAt K H v fl) : Bx K T0 C (upd H M (.lst (acc ++ [v]))) d L1 Cc m ww g u sA pl r M c gone us sn ps cs gs tp xs es (acc ++ [v]) (fls ++ [fl]) := by
  have hM := b.hM
  have kt : KT K H (upd H M (.lst (acc ++ [v]))) := kt_lst hM
  have kd : ∀ {b : Addr} {zs : List (Key × V)}, H b = some (.dK zs) → (upd H M (.lst (acc ++ [v]))) b = some (.dK zs) := fun e => by rw [upd_ne (ne_of e hM (by intro z; cases z))]; exact e
  have MW : MWt K (upd H M (.lst (acc ++ [v]))) m ww g u ps cs gs tp := by
    obtain ⟨kvs, pa, ca, ga, xs, zs, ys, hm, v1, v2, v3, v4, h1, e1, h2, e2, h3, e3, n⟩ := b.mw.ex
    have n1 := b.nM kvs pa hm (.inl v1)
    have n2 := b.nM kvs ca hm (.inr (.inl v2))
    have n3 := b.nM kvs ga hm (.inr (.inr v3))
    exact ⟨kvs, pa, ca, ga, xs, zs, ys, kd hm, v1, v2, v3, v4, by rw [upd_ne n1]; exact h1, e1.imp fun _ _ r => PartAt.kt kt r, by rw [upd_ne n2]; exact h2, e2.imp fun _ _ r => CauseAt.kt kt r, by rw [upd_ne n3]; exact h3, e3.imp fun _ _ r => GateAt.kt kt r, n⟩
  have nM : NoM (upd H M (.lst (acc ++ [v]))) m M := let ⟨_, _, _, _, _, _, _, hm, _⟩ := b.mw.ex; b.nM.to hm (kd hm)
  exact ⟨b.D.lst hM b.n6 b.n7 _, tabs_upd hM (by intro _ z; cases z) (by intro _ z; cases z) b.T, MW, b.W.lset hM b.n5, b.P.kt kt fun _ _ _ e => by rw [upd_ne (ne_of e hM (by intro z; cases z))]; exact e, upd_same, Paired.app (TxtsAt.kt kt hv) (Paired.imp2 (fun _ _ r => TxtsAt.kt kt r) b.ac), kt _ _ b.hr, Paired.imp2 (fun _ _ r => PartAt.kt kt r) b.ev, b.ws, b.n1, b.n2, b.n3, b.n4, b.n5, b.n6, b.n7, b.snl, nM⟩
end
end Kf

set_option Elab.async false
set_option linter.all false
set_option maxRecDepth 100000
set_option maxHeartbeats 2000000
namespace Kf
open PySem PySem.Spec PyProof.Rows L2 LamX NdefX TL
theorem srtS_idem (l : List Str) : srtS (srtS l) = srtS l := srtS_eq (srtS_perm l)
section
variable {ps : List (Str × Str)} {gs : List G} {cs : List (Str × List Str)} {tp : Str} {s s' : St3} {e : Str × Str}
theorem next_srt : (nextOf ps gs cs s e).1.1 = srtS (nextOf ps gs cs s e).1.1 := by
  unfold nextOf
  split <;> exact (srtS_idem _).symm
theorem fl_names (si : SI ps gs cs tp s) (he : EvOk ps s e) : ∀ x ∈ (nextOf ps gs cs s e).2, StrOk x := by
  have F := step_facts si he
  by_cases h : e.1 = "mend"
  · rw [(F.mend h).1]
    intro x hx
    cases hx
  · intro x hx
    obtain ⟨_, h2, _⟩ := F.fail h
    have : x ∈ (nextOf ps gs cs s e).1.1 := by
      rw [h2]
      exact mem_srt.mpr (List.mem_append.mpr (.inr hx))
    exact si.ok.pl.parts.names x (F.si.fok.sub x this)
theorem next_ne (si : SI ps gs cs tp s) (he : EvOk ps s e) (hf : e.1 = "fail") : s.1 ≠ (nextOf ps gs cs s e).1.1 := by
  have F := step_facts si he
  have hm : ¬ e.1 = "mend" := by rw [hf]; exact ne_fail_mend
  obtain ⟨⟨r, h1⟩, h2, _⟩ := F.fail hm
  have hin : e.2 ∈ (nextOf ps gs cs s e).1.1 := by
    rw [h2]
    exact mem_srt.mpr (List.mem_append.mpr (.inr (by rw [h1]; exact List.mem_cons_self ..)))
  intro z
  rw [← z] at hin
  rcases he.ex with ⟨e1, _⟩ | ⟨_, _, e3, _⟩
  · exact hm e1
  · exact e3 hin
theorem eqvAll_strs : ∀ a b : List Str, PyData.eqvAll (a.map PyData.str) (b.map PyData.str) = decide (a = b)
  | [], [] => rfl
  | [], _ :: _ => rfl
  | _ :: _, [] => rfl
  | x :: r, y :: t => by
    rw [List.map_cons, List.map_cons, PyData.eqvAll, eqvAll_strs r t]
    have : PyData.eqv (.str x) (.str y) = decide (x = y) := by by_cases h : x = y <;> simp [PyData.eqv, h]
    rw [this]
    by_cases h1 : x = y <;> by_cases h2 : r = t <;> simp [h1, h2]
theorem eqv_strs (a b : List Str) : PyData.eqv (strsD a) (strsD b) = decide (a = b) := by
  unfold strsD
  rw [PyData.eqv]
  exact eqvAll_strs a b
theorem eqv_stD_ne (h : s.1 ≠ s'.1) : PyData.eqv (stD s) (stD s') = false := by
  unfold stD
  rw [PyData.eqv, PyData.eqvAll, eqv_strs, decide_eq_false h]
  rfl
theorem run_names : ∀ (es : List (Str × Str)) {s : St3}, SI ps gs cs tp s → RowOk ps gs cs s es → ∀ fl ∈ runFl ps gs cs s es, ∀ x ∈ fl, StrOk x
  | [], _, _, _ => fun fl h => by cases h
  | e :: r, s, si, row => by
    cases row with
    | cons h1 h2 =>
      intro fl hfl
      rcases List.mem_cons.mp hfl with rfl | hfl
      · exact fl_names si (evIn h1)
      · exact run_names r (step_facts si (evIn h1)).si h2 fl hfl
end
def flsD (fls : List (List Str)) : PyData := .list (fls.map strsD)
theorem eqv_flsD (fls : List (List Str)) : PyData.eqv (flsD fls) (flsD fls) = true := by
  unfold flsD
  rw [PyData.eqv]
  exact eqvAll_self fun d hd => by
    obtain ⟨l, _, rfl⟩ := List.mem_map.mp hd
    exact eqv_strsD l
theorem dp_txts {K : PySem.W.Frag} {H : Hp} : ∀ {xs : List V} {l : List (List Str)}, Paired (TxtsAt K H) xs l → DpAll K H xs (l.map strsD)
  | _, _, .nil => .nil
  | _, _, .cons h t => by
    obtain ⟨b, rfl, hb⟩ := h
    exact .cons (dp_strs hb) (dp_txts t)
theorem sh_fls {fls : List (List Str)} (h : ∀ fl ∈ fls, ∀ x ∈ fl, StrOk x) : SeqAt.shaped (flsD fls) = true := shaped_list fun d hd => by
  obtain ⟨l, hl, rfl⟩ := List.mem_map.mp hd
  exact (sh_strs (h l hl)).up (by decide)
theorem runFl_len {ps : List (Str × Str)} {gs : List G} {cs : List (Str × List Str)} : ∀ (l : List (Str × Str)) (s : St3), (runFl ps gs cs s l).length = l.length
  | [], _ => rfl
  | e :: r, s => by
    show (runFl ps gs cs _ r).length + 1 = r.length + 1
    rw [runFl_len r]
theorem paired_at2 {α β : Type} {R : α → β → Prop} {xs : List α} {l : List β} (h : Paired R xs l) {i : Nat} {x : α} {y : β} (hx : xs[i]? = some x) (hy : l[i]? = some y) : R x y := by
  obtain ⟨p, hp, r⟩ := paired_get h hx
  rw [hy] at hp
  cases hp
  exact r
theorem paired_end {α β : Type} {R : α → β → Prop} {xs : List α} {l : List β} {x : α} {y : β} (h : Paired R (xs ++ [x]) (l ++ [y])) : R x y := by
  have hl := Paired.length h
  simp at hl
  exact paired_at2 h (i := xs.length) (by simp) (by rw [hl]; simp)
theorem paired_last {α β : Type} {R : α → β → Prop} {xs : List α} {l : List β} {x : α} : (xs ++ [x])[xs.length]? = some x := by simp
end Kf

set_option Elab.async false
set_option linter.all false
set_option maxRecDepth 100000
set_option maxHeartbeats 2000000
/-! an own exception over ValueError whose __init__ says super().__init__(text) first -/
namespace L2
open PySem PySem.Spec PyProof.Rows NdefX
/-- what the written part says of such a class -/
structure FtC (P : Program) (K : PySem.W.Frag) (mg : Str → Option Value) (C cc cda : Addr) : Prop where
  ox : OexC K C
  cell : ∃ cl cld csl, K.lookup cc = some ⟨cl, cld, .cell (some (.ref C)), csl⟩
  code : ∃ ccl cdd vs ccs file tf, K.lookup cda = some ⟨ccl, cdd, .fields vs, ccs⟩ ∧ vs[2]? = some (.str file tf) ∧ ((P.main.file : Str) == file) = true
  cls : ∃ cd, PySem.W.clsIn K C = some cd ∧ PySem.W.alongIn K "__init__" ((cd.mro.dropWhile (· != .ref C)).drop 1) = some (some (.builtin "ValueError.__init__"))
  sub : PySem.W.mroIn K C (.ref C) = some true
  ve : PySem.W.mroIn K C (.type "ValueError") = some true
  op : PySem.W.nsIn K PySem.cStatics "thirdparty.any" = some none
  sup : mg "super" = none
  top : (P.main.scope.names.lookup ("super" : Str)).isSome = false
section
variable {X : Cx} {pins : List (Addr × Obj)} {σ : St} {H : Hp} {s : Shared} {a C cc cda : Addr}
/-- the wrapper called -/
theorem wrap_call {u : Addr} {us : List Value} {Q : Value → Shared → Prop} (T : OexC X.K C) (I : Inv X pins σ H s) (hu : s.heap.get? u = some (PySem.W.kxs_mw "ValueError.__init__" a)) (e : H a = some (exo a C none)) (hl : us.length ≤ sizeLine) (h : ∀ s', Inv X pins σ H s' → Q .none s') :
    wpAny (model X.prog X.w) X.A (call (.ref u) us) Q X.xe s := by
  obtain ⟨nm, q, N, bs, bm, sn, sub, ab, col, dd, k0, k1, k2, k3, k5, hC, hbm⟩ := T.cls
  obtain ⟨t1, ho⟩ := exo_at I.hok e
  have hCh := I.kIn _ _ hC
  have fin : ∀ h', (∀ b o, b ≠ a → s.heap.get? b = some o → h'.get? b = some o) → (∃ t2 : Addr, h'.get? a = some ({ cls := .ref C, dict := none, data := .fields #[.ref t2, .none, .none, .none, .bool false, .none] } : Obj)) → Q .none { s with heap := h' } := fun h' k ⟨t2, hx⟩ => by
    have J := I.write (t' := s.toks) (x := a) (e := a) (o := exo a C none) (by rw [e]; exact True.intro) (.inl rfl) k ⟨_, hx⟩ (exo_ok hx)
    have eu : upd H a (exo a C none) = H := by
      funext b
      by_cases hb : b = a
      · rw [hb, upd_same, e]
      · rw [upd_ne hb]
    rw [eu] at J
    exact h _ J
  obtain ⟨hp, g, d, t, os⟩ := s
  refine wpAny_call (codeAny_of_tree ?_)
  show wpAny _ X.A.in1 (callAny (.ref u) ⟨us, []⟩) _ _ _
  simp only [callAny]
  refine wpAny_bind (wpAny_load hu ?_)
  simp only [PySem.W.kxs_mw, show (Value.type "method-wrapper" == Value.type "method" || Value.type "method-wrapper" == Value.type "builtin_function_or_method" || Value.type "method-wrapper" == Value.type "method-wrapper") = true by decide, if_true]
  refine PySem.W.KFB.if_so (by decide) ?_
  refine wpAny_bind (PySem.W.check_bound_init F.excBase_ValueError.toExcCallFacts hCh ho rfl ?_)
  refine wpAny_bind (wpAny_pure (wpAny_pure ?_))
  refine ⟨plainId_quiet F.excBase_ValueError.init.plain _, codeAny_builtin F.excBase_ValueError.initEntry ?_⟩
  rw [Around.under_plainId F.excBase_ValueError.init.plain _]
  refine PySem.W.exc_init_tree (cls := .ref C) (t0 := t1) (dv := none) (c2 := .none) (c3 := .none) (b4 := .bool false) ho hl fun h' k hx _ => ?_
  exact fin h' k ⟨_, hx⟩
theorem super_init {fI : Addr} {body : List Stmt} {of : Obj} {fd : FuncData} {ar : Arg} {e : Expr} {te : TE} {p0 p1 p2 p3 p4 : Pos} {q : Hp → Prop} (T : FtC X.prog X.K X.mg C cc cda) (I : Inv X pins σ H s)
    (hks : X.env.kindOf "super" = some .globalImplicit) (hkc : X.env.kindOf "__class__" = some .free) (hkl : X.env.kindOf ar.arg = some .local) (hfu : X.env.func = some fI) (hf : s.heap.get? fI = some of) (hfd : of.data = .func fd) (hp : (fd.params.posonlyargs ++ fd.params.args).head? = some ar) (hco : X.env.code = .ref cda) (hce : X.env.cells.lookup ("__class__" : Str) = some cc)
    (hN : X.N[0]? = some ar.arg) (h0 : σ[0]? = some (some (.ref a))) (ea : H a = some (exo a C none)) (he : PE X e te) (hq : te σ H fun _ H1 => H1 a = some (exo a C none) ∧ q H1)
    (hi : interactive X.env = false := by rfl) (hs : swapsWith (.Call (.Attribute (.Call (.Name "super" p0) [] [] p1) "__init__" p2) [e] [] p3) none p4.line X.env = pure false := by rfl)
    (hm : ∃ pl, eval (.Call (.Attribute (.Call (.Name "super" p0) [] [] p1) "__init__" p2) [e] [] p3) X.env = (do
      let ov ← attributeBase (.Call (.Name "super" p0) [] [] p1) "__init__" X.env (eval (.Call (.Name "super" p0) [] [] p1) X.env)
      standAt p2.atName
      let (f, first) ← holding [ov] (getMethod ov "__init__" pl)
      callWith p3 f first (backTo p3 (starEach [e] X.env)) []) := by exact ⟨_, rfl⟩)
    (hse : starEach [e] X.env = (false, eval e X.env) :: starEach [] X.env := by rfl) :
    _root_.PySem.wpAt (model X.prog X.w) X.A (.func body X.env) (exec (.Expr (.Call (.Attribute (.Call (.Name "super" p0) [] [] p1) "__init__" p2) [e] [] p3) p4) X.env) (fun fl s' => fl = .next ∧ ∃ H', Inv X pins σ H' s' ∧ q H') X.xe s := by
  obtain ⟨pl, hm⟩ := hm
  refine ks_wpAt_Expr_any (ks_wpAt_MethodCall (pl := pl) ?_ hm) hi hs
  obtain ⟨ccl, cdd, vs, ccs, file, tf, hcode, hvs, hfile⟩ := T.code
  obtain ⟨cl, cld, csl, hcell⟩ := T.cell
  obtain ⟨cd, hcd, hal⟩ := T.cls
  refine ks_wpAt_super_base hks hkc (by decide) hfu hf hfd hp hco (I.kIn _ _ hcode) rfl hvs hfile T.top ?_
  obtain ⟨mb, hb1, hb2⟩ := I.mod.blt
  refine PySem.W.ks_loadName_global I.ok.kind hks (Calls.loadGlobal_builtin (by rw [I.ok.glob]; exact I.mod.glob.keeps I.bk) T.sup (by rw [I.ok.blt]; exact hb1.keeps I.bk) ((hb2 "super" (by decide)).trans (by decide +kernel)) ⟨rfl, ?_⟩)
  refine wpAny_loadName_free I.ok.kind hkc hce ⟨_, I.kIn _ _ hcell, rfl⟩ ?_
  obtain ⟨m, hns, hlk⟩ := I.loc
  obtain ⟨u0, r0, hl0⟩ := hlk 0 ar.arg (.ref a) hN h0 (.inl hkl)
  obtain rfl : u0 = Value.ref a := r0
  have hma : m ar.arg = some (.ref a) := by
    rcases hl0 with ⟨_, h⟩ | ⟨h | h, _⟩
    · exact h
    · rw [hkl] at h; cases h
    · rw [hkl] at h; cases h
  refine wpAny_loadName_local I.ok.kind hkl hns hma ?_
  obtain ⟨oD, hD1, hD2⟩ : ∃ oD, s.heap.get? C = some oD ∧ oD.data = .cls cd := by
    have hD := hcd
    unfold PySem.W.clsIn at hD
    split at hD
    · rename_i c d cd' sl ho
      cases hD
      exact ⟨_, I.kIn _ _ ho, rfl⟩
    · cases hD
  refine PySem.ks_wpAny_isType_cls hD1 hD2 ⟨rfl, ?_⟩
  obtain ⟨t1, ho⟩ := exo_at I.hok ea
  have hxC : a ≠ C := fun z => by
    rw [z, hD1] at ho
    rw [Option.some.inj ho] at hD2
    cases hD2
  obtain ⟨hp0, g, d, t, os⟩ := s
  refine PySem.ks_wpAny_call_super hD1 hD2 ho rfl (fun c z => by cases z) (PySem.W.looks_mroIn I.kIn T.sub) (fun h' eso k => ?_)
  have I2 := I.kept (t' := t) (h' := h') k
  obtain ⟨t2, ho2⟩ := exo_at I2.hok ea
  refine PySem.W.kxs_getMethod PySem.W.kxs_ValueError eso (PySem.W.looks_opaque I2.kIn T.op) (l₀ := cd.mro) (l := (cd.mro.dropWhile (· != .ref C)).drop 1) ?_ rfl I2.kIn hal ?_ hxC (by decide) ?_
  · exact fun A Q E s k q => wpAny_bind ((PySem.W.looks_clsIn I2.kIn hcd) A _ E s k (wpAny_pure q))
  · have J : PySem.W.InstAt h' a _ C none := ⟨ho2, rfl, rfl, trivial⟩
    exact J.type.andThen (PySem.W.looks_mroIn I2.kIn T.ve)
  have I3 : Inv X ((h'.objs.size, PySem.W.kxs_mw "ValueError.__init__" a) :: pins) σ H ⟨h'.push (PySem.W.kxs_mw "ValueError.__init__" a), g, d, t + 1, os⟩ :=
    ClX.pin_new I2 (fun _ _ z => Heap.get?_push_of_some _ z) (Nat.le_refl _) (Heap.get?_push_size h' rfl) (fun v z => nomatch z)
  show wpAny _ _ (callWith p3 (.ref h'.objs.size) [] (backTo p3 (starEach [e] X.env)) []) _ _ _
  rw [hse]
  refine PySem.W.kxs_callWith (i := "ValueError.__init__") (x := a) rfl (Calls.evalArgs_plain (x := eval e X.env) (rest := backTo p3 (starEach [] X.env)) ?_)
  refine Calls.spliced_cons (thn (he.run _ _ σ H _ I3 hq) fun v s1 ⟨y, H1, I1, r1, ea1, q1⟩ => ?_)
  refine Calls.spliced_nil ⟨?_, ?_⟩
  · exact (I1.pin (h'.objs.size, PySem.W.kxs_mw "ValueError.__init__" a) (List.mem_append_right _ List.mem_cons_self)).1
  · refine wrap_call T.ox I1 ?_ ea1 (by rw [sizeLine_eq]; show 1 ≤ _; omega) fun s2 I4 => ⟨rfl, H1, I4.pins_of fun p hp => I4.pin p (List.mem_append.mpr ((List.mem_append.mp (show p ∈ X.pn ++ pins from List.mem_append_right _ hp)).imp id fun z => List.mem_cons_of_mem _ z)), q1⟩
    exact (I1.pin (h'.objs.size, PySem.W.kxs_mw "ValueError.__init__" a) (List.mem_append_right _ List.mem_cons_self)).1
end
end L2

set_option Elab.async false
set_option linter.all false
set_option maxRecDepth 100000
set_option maxHeartbeats 2000000
namespace L2
open PySem PySem.Spec PyProof.Rows NdefX
/-! ### a def with `super().__init__(e)` ahead, by its body -/
section
variable {CX : CXT} {P : Program} {w : World} {K : PySem.W.Frag} {mg : Str → Option Value} {base : Heap} {k : Nat} {C cc cda fI : Addr}
theorem fnok_super {name qual : Str} {params : Arguments} {scope : Scope} {dV kV doc pm ct oc : Value} {an od : Option Addr} {osl : Array (Option Value)} {rest : List Stmt} {e : Expr} {p0 p1 p2 p3 p4 : Pos} {N ps : List Str} {sp : Sp} {ar : Arg}
    (lk : K.lookup fI = some ⟨oc, od, .func (PySem.W.fnX name qual params (.Expr (.Call (.Attribute (.Call (.Name "super" p0) [] [] p1) "__init__" p2) [e] [] p3) p4 :: rest) scope [("__class__", cc)] dV kV doc pm an (.ref cda) ct), osl⟩)
    (hcd : PySem.W.codeIn K (.ref cda) qual = true) (S : NScope N ps ["__class__"] scope) (T : FtC P K mg C cc cda) (hks : scope.names.lookup ("super" : Str) = some .globalImplicit) (hp : (params.posonlyargs ++ params.args).head? = some ar) (har : ps[0]? = some ar.arg)
    (len : ∀ vs H Q E, sp vs H Q E → vs.length = ps.length)
    (hbody : ∀ (A : Around) (outer : List Env) (s : Shared) (H : Hp) (vs : List V) (Q : VK) (E : XK), Room k (A.deeper (envF ⟨name, qual, params, (.Expr (.Call (.Attribute (.Call (.Name "super" p0) [] [] p1) "__init__" p2) [e] [] p3) p4 :: rest), scope, [("__class__", cc)], cda⟩ fI s.heap.objs.size)) → sp vs H Q E →
      ∃ (a : Addr) (te : TE) (t : TS), vs[0]? = some (.ref a) ∧ H a = some (exo a C none) ∧ PE (ncx CX P w K mg base N ⟨name, qual, params, (.Expr (.Call (.Attribute (.Call (.Name "super" p0) [] [] p1) "__init__" p2) [e] [] p3) p4 :: rest), scope, [("__class__", cc)], cda⟩ fI A outer s H E) e te ∧
        PSs (ncx CX P w K mg base N ⟨name, qual, params, (.Expr (.Call (.Attribute (.Call (.Name "super" p0) [] [] p1) "__init__" p2) [e] [] p3) p4 :: rest), scope, [("__class__", cc)], cda⟩ fI A outer s H E) rest t ∧
        te (startF N vs [none]) H fun _ H1 => H1 a = some (exo a C none) ∧ t { nx := fun _ H' => Q .non H', rt := Q } (startF N vs [none]) H1)
    (hm : ∀ env : Env, ∃ pl, eval (.Call (.Attribute (.Call (.Name "super" p0) [] [] p1) "__init__" p2) [e] [] p3) env = (do
      let ov ← attributeBase (.Call (.Name "super" p0) [] [] p1) "__init__" env (eval (.Call (.Name "super" p0) [] [] p1) env)
      standAt p2.atName
      let (f, first) ← holding [ov] (getMethod ov "__init__" pl)
      callWith p3 f first (backTo p3 (starEach [e] env)) []) := by exact fun _ => ⟨_, rfl⟩)
    (hse : ∀ env : Env, starEach [e] env = (false, eval e env) :: starEach [] env := by exact fun _ => rfl) :
    FnOk P w K mg base CX (k + 1) fI (PySem.W.fnX name qual params (.Expr (.Call (.Attribute (.Call (.Name "super" p0) [] [] p1) "__init__" p2) [e] [] p3) p4 :: rest) scope [("__class__", cc)] dV kV doc pm an (.ref cda) ct) ps sp := by
  refine ⟨len, fun A outer s H args us vs Q E hr e0 hb r hsp => ?_⟩
  have KX : K.In s.heap := e0.mod.kin.keeps fun b o e => (e0.bs b o e).1
  have lim : s.heap.NoLimit := e0.mod.nolimit.keeps fun b o e => (e0.bs b o e).1
  have hl := len _ _ _ _ hsp
  obtain ⟨F, eF⟩ : ∃ F : NF, F = ⟨name, qual, params, (.Expr (.Call (.Attribute (.Call (.Name "super" p0) [] [] p1) "__init__" p2) [e] [] p3) p4 :: rest), scope, [("__class__", cc)], cda⟩ := ⟨_, rfl⟩
  refine PySem.ks_codeAny_call_defAt (binds := ps.zip us) hr.depth (KX _ _ lk) rfl lim (PySem.W.codeRec_of KX hcd) rfl hb S.nocell (fun ⟨n, _⟩ hy => S.par n (List.of_mem_zip hy).1) (fun h₁ hns kp => ?_) S.co S.gen S.kind
  obtain ⟨cl, cld, csl, hcell⟩ := T.cell
  have C0 : CellsAt [("__class__", cc)] ["__class__"] [none] s.heap H := by
    have one : ∀ {y : Str} {c : Addr}, List.lookup y [(("__class__" : Str), cc)] = some c → y = "__class__" ∧ c = cc := fun {y c} h => by
      rw [List.lookup_cons] at h
      by_cases hy : y = "__class__"
      · subst hy
        rw [beq_self_eq_true] at h
        exact ⟨rfl, (Option.some.inj h).symm⟩
      · rw [beq_eq_false_iff_ne.mpr hy] at h
        cases h
    refine ⟨rfl, fun y c h => ?_, fun x y c h1 h2 => (one h1).1.trans (one h2).1.symm, fun i y h => ?_⟩
    · obtain ⟨_, rfl⟩ := one h
      exact ⟨(e0.bs _ _ (e0.mod.kin _ _ hcell)).2, _, _, KX _ _ hcell, rfl⟩
    · cases i with
      | zero =>
        obtain rfl := Option.some.inj h
        exact ⟨cc, by rw [List.lookup_cons, beq_self_eq_true], fun v z => by cases z⟩
      | succ i => simp at h
  obtain ⟨a, te, t, hv0, ea, he, ht, hq⟩ := hbody A outer s H vs Q E (hr.deeper _) hsp
  subst eF
  have I : Inv (ncx CX P w K mg base N ⟨name, qual, params, (.Expr (.Call (.Attribute (.Call (.Name "super" p0) [] [] p1) "__init__" p2) [e] [] p3) p4 :: rest), scope, [("__class__", cc)], cda⟩ fI A outer s H E) [] (startF N vs [none]) H { s with heap := h₁, toks := s.toks + (ps.zip us).length } := inv_startN S hr.hd e0 hl r C0 hns kp
  have hps : 0 < ps.length := by
    cases ps with
    | nil => simp at har
    | cons _ _ => simp
  have hN0 : N[0]? = some ar.arg := by
    have e := congrArg (fun l : List Str => l[0]?) S.pre
    rw [List.getElem?_take_of_lt (by simp), List.getElem?_append_left hps] at e
    rw [e]
    exact har
  have hs0 : (startF N vs [none])[0]? = some (some (.ref a)) := by
    unfold startF
    rw [List.getElem?_append_left (by rw [List.length_map]; omega), List.getElem?_map, hv0]
    rfl
  have fin : ∀ {fl : Flow} {s' : Shared}, SP (ncx CX P w K mg base N ⟨name, qual, params, (.Expr (.Call (.Attribute (.Call (.Name "super" p0) [] [] p1) "__init__" p2) [e] [] p3) p4 :: rest), scope, [("__class__", cc)], cda⟩ fI A outer s H E) [] { nx := fun _ H' => Q .non H', rt := Q } fl s' → CR CX outer P w H s Q E (.ok (.ret (match fl with | .ret v => v | _ => .none))) s' := fun {fl s'} hs => by
    cases fl with
    | ret u =>
      obtain ⟨v, σ', H', J, rv, q⟩ := hs
      exact ⟨v, H', J.os, J.bare, J.base, J.hok, rv, q⟩
    | next =>
      obtain ⟨σ', H', J, q⟩ := hs
      exact ⟨.non, H', J.os, J.bare, J.base, J.hok, rfl, q⟩
    | brk =>
      obtain ⟨_, _, _, q⟩ := hs
      exact False.elim q
    | cont =>
      obtain ⟨_, _, _, q⟩ := hs
      exact False.elim q
  refine PySem.ks_wpAt_execs_cons ?_
  refine PySem.ks_wpAt_mono (super_init (X := ncx CX P w K mg base N ⟨name, qual, params, (.Expr (.Call (.Attribute (.Call (.Name "super" p0) [] [] p1) "__init__" p2) [e] [] p3) p4 :: rest), scope, [("__class__", cc)], cda⟩ fI A outer s H E) (σ := startF N vs [none]) (pins := []) T I hks (S.frk _ (by simp)) (S.par _ (List.mem_of_getElem? har)) rfl (kp _ _ (KX _ _ lk)) rfl hp rfl (by show List.lookup ("__class__" : Str) [(("__class__" : Str), cc)] = _; rw [List.lookup_cons, beq_self_eq_true]) hN0 hs0 ea he hq (by show (scope.kind == .module && _) = false; rw [S.kind]; rfl) rfl (hm _) (hse _)) (fun fl s' hfl => ?_) fun _ _ z => z
  obtain ⟨rfl, H1, J, q1⟩ := hfl
  exact wpAt_of_wpAny (wpAny_mono (ht.run [] s' (startF N vs [none]) H1 _ J q1) (fun fl s'' hs => fin hs) fun _ _ z => z)
end
end L2

set_option Elab.async false
set_option linter.all false
set_option maxRecDepth 100000
set_option maxHeartbeats 2000000
namespace L2
open PySem PySem.Spec PyProof.Rows NdefX
/-! ### an own exception with one number: `super().__init__(f"..{x!r}..")`, `self.x = x` -/
def spFault (C : Addr) (f : Str) : Sp := fun vs H Q _ => ∃ (a : Addr) (i : Int), vs = [.ref a, .int i] ∧ i.natAbs.log2 < 1920 ∧ H a = some (exo a C none) ∧ ∀ dx, H dx = none → dx ≠ a → Q .non (upd (upd H dx (exd dx [(f, .int i)])) a (exo a C (some dx)))
theorem int_str_len {i : Int} (h : i.natAbs.log2 < 1920) : (Str.ofString (toString i)).length ≤ 1921 := by
  have e := int_text_length_le (k := 1920) (by decide) h
  rw [PySem.ofString_length]
  exact e
section
variable {P : Program} {w : World} {K : PySem.W.Frag} {mg : Str → Option Value} {base : Heap} {k : Nat} {C cc cda fI : Addr}
variable {qual c c2 f : Str} {params : Arguments} {scope : Scope} {dV kV doc pm ct oc : Value} {an od : Option Addr} {osl : Array (Option Value)} {p0 p1 p2 p3 p4 q1 q2 q3 q4 q5 q6 q7 q8 q9 : Pos} {ar : Arg}
theorem fault_ok2
    (lk : K.lookup fI = some ⟨oc, od, .func (PySem.W.fnX "__init__" qual params [.Expr (.Call (.Attribute (.Call (.Name "super" p0) [] [] p1) "__init__" p2) [.JoinedStr [.Constant (.str c) 0 q1, .FormattedValue (.Name f q2) 114 none q3] q4] [] p3) p4, .Assign [.Attribute (.Name "self" q5) f q6] (.Name f q7) q8] scope [("__class__", cc)] dV kV doc pm an (.ref cda) ct), osl⟩)
    (hcd : PySem.W.codeIn K (.ref cda) qual = true) (S : NScope ["self", f, "__class__"] ["self", f] ["__class__"] scope) (T : FtC P K mg C cc cda) (hks : scope.names.lookup ("super" : Str) = some .globalImplicit) (hp : (params.posonlyargs ++ params.args).head? = some ar) (har : ar.arg = "self")
    (hno : PySem.W.findIn K (.ref C) f = some none) (hlc : c.length ≤ 1000) (hd : (f == ("__debug__" : Str)) = false) (hcd2 : (f == ("__classdict__" : Str)) = false)
    (hm : ∀ env : Env, ∃ pl, eval (.Call (.Attribute (.Call (.Name "super" p0) [] [] p1) "__init__" p2) [.JoinedStr [.Constant (.str c) 0 q1, .FormattedValue (.Name f q2) 114 none q3] q4] [] p3) env = (do
      let ov ← attributeBase (.Call (.Name "super" p0) [] [] p1) "__init__" env (eval (.Call (.Name "super" p0) [] [] p1) env)
      standAt p2.atName
      let (g, first) ← holding [ov] (getMethod ov "__init__" pl)
      callWith p3 g first (backTo p3 (starEach [.JoinedStr [.Constant (.str c) 0 q1, .FormattedValue (.Name f q2) 114 none q3] q4] env)) [])) :
    FnOk P w K mg base CX0 (k + 1) fI (PySem.W.fnX "__init__" qual params [.Expr (.Call (.Attribute (.Call (.Name "super" p0) [] [] p1) "__init__" p2) [.JoinedStr [.Constant (.str c) 0 q1, .FormattedValue (.Name f q2) 114 none q3] q4] [] p3) p4, .Assign [.Attribute (.Name "self" q5) f q6] (.Name f q7) q8] scope [("__class__", cc)] dV kV doc pm an (.ref cda) ct) ["self", f] (spFault C f) := by
  refine fnok_super lk hcd S T hks hp (by rw [har]; rfl) (fun vs H Q E h => ?_) (fun A outer s H vs Q E hr h => ?_) hm (fun _ => rfl)
  · obtain ⟨a, i, rfl, _⟩ := h
    rfl
  · obtain ⟨a, i, rfl, hi, ea, q⟩ := h
    have e1 : ("" : Str).length = 0 := rfl
    have z := int_str_len hi
    refine ⟨a, _, _, rfl, ea, pe_joined (PJ.cons pe_str (PJ.cons (pe_fmtR (pe_var (i := 1) rfl (.inl (S.par f (by simp))) hd hcd2)) PJ.nil)), pss_one (ps_ost (pe_var (i := 0) rfl (.inl (S.par "self" (by simp))) (by decide) (by decide)) (pe_var (i := 1) rfl (.inl (S.par f (by simp))) hd hcd2)), ?_⟩
    refine ⟨c, rfl, ?_, .int i, rfl, .inr ⟨i, rfl, hi, _, rfl, ?_, ea, .int i, rfl, .ref a, rfl, a, C, rfl, T.ox, hno, .inl ⟨ea, fun dx n1 n2 => q dx n1 n2⟩⟩⟩
    · rw [PySem.Str.length_append, sizeLine_eq]
      have : Str.empty.length = 0 := rfl
      omega
    · rw [PySem.Str.length_append, PySem.Str.length_append, sizeLine_eq]
      have : Str.empty.length = 0 := rfl
      omega
end
end L2

set_option maxRecDepth 100000
set_option maxHeartbeats 2000000
namespace PySem.SeqAt
open AutoSeq1 (wpAny_loadPart')
open MeetsSeq
theorem tuple_eq_declines_dict (l b : Addr) (items : Array Value) (es : Array DictEntry) (n n2 : Nat) (dd dd2 : Option Addr) (sl sl2 : Array (Option Value)) :
    Meets (Builtin.«tuple.__eq__» ⟨[.ref l, .ref b], []⟩) (fun _ R s => s.heap.get? l = some { cls := .type "tuple", dict := dd, data := .seq items n, slots := sl } ∧ s.heap.get? b = some { cls := .type "dict", dict := dd2, data := .dict es n2, slots := sl2 } ∧ R (.ok (.ret .notImplemented)) s) :=
  .of_wp fun prog w A R s h => by obtain ⟨hp, g, d, tk, os⟩ := s; obtain ⟨hl, hb, h⟩ := h; have f1 := PySem.F.sub_dict_tuple; wp_walk using wpAny_loadPart' hl, wpAny_loadPart' hb; exact ⟨_, rfl, h⟩
theorem dict_eq_declines_tuple (l b : Addr) (items : Array Value) (es : Array DictEntry) (n n2 : Nat) (dd dd2 : Option Addr) (sl sl2 : Array (Option Value)) :
    Meets (Builtin.«dict.__eq__» ⟨[.ref b, .ref l], []⟩) (fun _ R s => s.heap.get? l = some { cls := .type "tuple", dict := dd, data := .seq items n, slots := sl } ∧ s.heap.get? b = some { cls := .type "dict", dict := dd2, data := .dict es n2, slots := sl2 } ∧ R (.ok (.ret .notImplemented)) s) :=
  .of_wp fun prog w A R s h => by obtain ⟨hp, g, d, tk, os⟩ := s; obtain ⟨hl, hb, h⟩ := h; have f1 := PySem.F.sub_tuple_dict; wp_walk using wpAny_loadPart' hl, wpAny_loadPart' hb; exact ⟨_, rfl, h⟩
section
variable {A : Around} {s : Shared}
theorem RcAt.tuple_dict {l b : Addr} {items : Array Value} {es : Array DictEntry} {n2 : Nat} {dd2 : Option Addr} {sl2 : Array (Option Value)} (hl : s.heap.IsTuple l items) (ho2 : s.heap.get? b = some { cls := .type "dict", dict := dd2, data := .dict es n2, slots := sl2 }) (hu : A.units < cLine) : RcAt A s (.ref l) (.ref b) false := fun prog w E Q h => by
  obtain ⟨⟨cls, dd, data, sl⟩, ho, hc, n, hd⟩ := id hl
  simp only at hc hd
  subst hc hd
  have hne : l ≠ b := fun e => by
    subst e
    rw [ho] at ho2
    exact absurd (congrArg Obj.cls (Option.some.inj ho2)) (by simp)
  exact (rc_eq_decline_or (k := false) ⟨_, ho, rfl⟩ ⟨_, ho2, rfl⟩ (by decide) PySem.F.sub_dict_tuple F.slot_tuple_eq PySem.F.slot_dict_eq_refl
    (fun _ hq => call_meets F.slot_tuple_eq ⟨_, ho, rfl⟩ F.entry_tuple_eq (F.args_tuple_eq_2 _ _) (tuple_eq_declines_dict l b items es n n2 dd dd2 sl sl2) ⟨ho, ho2, hq⟩)
    (fun _ hq => call_meets PySem.F.slot_dict_eq_refl ⟨_, ho2, rfl⟩ PySem.F.entry_dict_eq (PySem.F.args_dict_eq_2 _ _) (dict_eq_declines_tuple l b items es n n2 dd dd2 sl sl2) ⟨ho, ho2, hq⟩)
    (fun _ hq => wpAny_isSame_ref_other' hne ho ho2 (by simp) hq) (.inr hu) h)
theorem EqAt.tuple_dict {l b : Addr} {items : Array Value} {es : Array DictEntry} {n2 : Nat} {dd2 : Option Addr} {sl2 : Array (Option Value)} (hl : s.heap.IsTuple l items) (ho2 : s.heap.get? b = some { cls := .type "dict", dict := dd2, data := .dict es n2, slots := sl2 }) (hu : A.units < cLine) : EqAt A s (.ref l) (.ref b) false :=
  .of_refs (fun e => by
    obtain ⟨o, ho, hc, _⟩ := hl
    rw [e, ho2] at ho
    rw [← Option.some.inj ho] at hc
    exact absurd hc (by simp)) (.tuple_dict hl ho2 hu)
end
end PySem.SeqAt
namespace L2
open PySem PySem.Spec PyProof.Rows
theorem vals_mem : ∀ {xs : List V} {us : List Value}, Vals xs us → ∀ {y : Value}, y ∈ us → ∃ v ∈ xs, RelV v y
  | _, _, .nil, y, h => by cases h
  | _, _, .cons r t, y, h => by
    rcases List.mem_cons.mp h with rfl | h
    · exact ⟨_, List.mem_cons_self .., r⟩
    · obtain ⟨v, hv, rv⟩ := vals_mem t h
      exact ⟨v, List.mem_cons_of_mem _ hv, rv⟩
section
variable {X : Cx}
/-- a dict is in no list of tuples -/
def rNotInT (K : PySem.W.Frag) : R2 := fun x y H Q => ∃ b kvs a xs, x = .ref b ∧ y = .ref a ∧ H b = some (.dK kvs) ∧ SqL K H a xs ∧ (∀ v ∈ xs, ∃ t ys, v = .ref t ∧ SqT K H t ys) ∧ Q (.bl true) H
theorem op_notInT (hu : X.A.units + 65 < cLine) : OpR X (compareOp .NotIn) (rNotInT X.K) := by
  intro pins s σ H x y v u Q I rx ry h
  obtain ⟨b, kvs, a, xs, rfl, rfl, hb, ha, hx, q⟩ := h
  obtain rfl : v = .ref b := rx
  obtain rfl : u = .ref a := ry
  obtain ⟨its, rv, hl, hz⟩ := I.list ha
  obtain ⟨hz0, hs0, vs, kv, hdo⟩ := I.hok b _ hb
  obtain ⟨⟨cls, dd, data, sl⟩, es, ep, ho, hex, hd, _⟩ := hdo
  have hc : cls = .type "dict" := hex.1
  simp only at hd
  subst hc hd
  refine SeqAt.notIn_listAt (fun _ => false) hl.isList (fun y hy => ?_) ?_
  · obtain ⟨v, hv, rvy⟩ := vals_mem rv (by simpa using hy)
    obtain ⟨t, ys, rfl, ht⟩ := hx v hv
    obtain rfl : y = .ref t := rvy
    obtain ⟨its2, _, ht2, _⟩ := I.tuple ht
    exact SeqAt.EqAt.tuple_dict ht2 ho (by show X.A.in1.units < cLine; have : X.A.in1.units = X.A.units + 1 := rfl; omega)
  · have e : (!its.toArray.any fun _ => false) = true := by simp
    rw [e]
    exact ⟨.bl true, H, I, rfl, q⟩
end
end L2

set_option Elab.async false
set_option linter.all false
set_option maxRecDepth 100000
set_option maxHeartbeats 2000000
namespace Kf
open PySem PySem.Spec PyProof.Rows L2 LamX NdefX TL
/-! ## an own error with a number, made and raised -/
structure FtMk (P : Program) (w : World) (K : PySem.W.Frag) (mg : Str → Option Value) (base : Heap) (k : Nat) (x : Str) (C : Addr) (f : Str) : Prop where
  ex : ∃ fI fd, OexC K C ∧ PySem.W.findIn K (.ref C) "__init__" = some (some (.ref fI)) ∧ PySem.W.typeIn K (.ref fI) = some (.type "function") ∧ mg x = some (.ref C) ∧ Binds K fd ["self", f] [] ∧ FnOk P w K mg base CX0 k fI fd ["self", f] (spFault C f)
/-- C(e): f -/
def tFault (C : Addr) (f : Str) (te : TE) : L2.St → Hp → XK → Prop := fun σ H Q => te σ H fun v H1 => ∃ i : Int, v = .int i ∧ i.natAbs.log2 < 1920 ∧ ∀ d, H1 d = none → Q (.ref C) (some d) (upd H1 d (.xd [(f, .int i)]))
theorem pa_mono {X : Cx} {es : List Expr} {t t' : TA} (h : PA X es t) (m : ∀ σ H Q, t' σ H Q → t σ H Q) : PA X es t' := ⟨fun pos pins s σ H Q I q => h.run pos pins s σ H Q I (m σ H Q q)⟩
theorem pmk_fault {X : Cx} {k j : Nat} {x f : Str} {C : Addr} {e : Expr} {te : TE} {p pos : Pos} (M : FtMk X.prog X.w X.K X.mg X.base k x C f) (hk : k + 1 ≤ j) (hr : Room j X.A) (hg : Gl X x) (he : PE X e te) (hm : ∀ (σ : L2.St) (H : Hp) (Q Q' : VK), (∀ v H', Q v H' → Q' v H') → te σ H Q → te σ H Q')
    (hdb : (x == ("__debug__" : Str)) = false := by decide) (hse : starEach (e :: []) X.env = (false, eval e X.env) :: starEach [] X.env := by rfl) : PMk X (.Call (.Name x p) [e] [] pos) (tFault C f te) := by
  obtain ⟨fI, fd, T, iC, tI, m, hb, F⟩ := M.ex
  intro pins s σ H Q I h
  refine pmk_oex (ta := tCons te tNil) (dvs := []) T iC tI F (hr.mono hk) hb .nil pass0 hg m (pa_cons he pa_nil hse) hdb hse rfl pins s σ H Q I ?_
  refine hm σ H _ _ (fun v H1 h1 => ?_) h
  obtain ⟨i, rfl, hi, q⟩ := h1
  refine ⟨by show 1 ≤ 1000; decide, fun a na => ⟨a, i, rfl, hi, upd_same, fun dx n1 n2 => ⟨rfl, dx, [(f, .int i)], upd_same, by rw [upd_ne n2]; exact upd_same, ?_, ?_⟩⟩⟩
  · rw [upd_ne n2] at n1
    exact n1
  · have nd : H1 dx = none := by
      rw [upd_ne n2] at n1
      exact n1
    have e2 : upd (L2.del (upd (upd (upd H1 a (exo a C none)) dx (exd dx [(f, .int i)])) a (exo a C (some dx))) a) dx (.xd [(f, .int i)]) = upd H1 dx (.xd [(f, .int i)]) := by
      funext b
      by_cases h1 : b = dx
      · subst h1
        rw [upd_same, upd_same]
      · rw [upd_ne h1, upd_ne h1]
        by_cases h2 : b = a
        · subst h2
          rw [L2.del_same, na]
        · rw [L2.del_ne h2, upd_ne h2, upd_ne h1, upd_ne h2]
    rw [e2]
    exact q dx nd
/-! ## a method that may raise -/
structure MetX (P : Program) (w : World) (K : PySem.W.Frag) (mg : Str → Option Value) (base : Heap) (k : Nat) (C : Addr) (m : Str) (sp : Sp) : Prop where
  ex : ∃ (f : Addr) (fd : FuncData) (ps : List Str), Cls K C ∧ Meth K C m f ∧ FnOk P w K mg base (L2.CX P w) k f fd ps sp ∧ Binds K fd ps []
theorem pe_mX {X : Cx} {k j : Nat} {C : Addr} {m : Str} {sp : Sp} {W : WX} {E : XK} {pos apos : Pos} {o e : Expr} {es : List Expr} {ta : TE} {t : TA} {pl : Sem Bool} (M : MetX X.prog X.w X.K X.mg X.base k C m sp) (tk : Takes X W) (hW : ∀ cls d σ H, E cls d H → W cls d σ H) (hr : Room j X.A) (hk : k ≤ j) (he : PE X o ta) (ha : PA X (e :: es) t)
    (hst : starEach (e :: es) X.env = (false, eval e X.env) :: starEach es X.env := by rfl) (hpl : (backTo pos (starEach es X.env)).any (·.1) = false := by rfl)
    (ht : eval (.Call (.Attribute o m apos) (e :: es) [] pos) X.env = (do
      let ov ← eval o X.env
      standAt apos.atName
      let (f, first) ← holding [ov] (getMethod ov m pl)
      callWith pos f first (backTo pos (starEach (e :: es) X.env)) (backToKw pos (keywordEach [] X.env))) := by rfl) :
    PE X (.Call (.Attribute o m apos) (e :: es) [] pos) (tMeth C m sp [] E ta t) := by
  obtain ⟨f, fd, ps, hc, hm, F, hb⟩ := M.ex
  exact pe_meth (pl := pl) he hc hm F (hr.mono hk) hb .nil (passes_call tk hW) ha hst hpl ht
end Kf

set_option Elab.async false
set_option linter.all false
set_option maxRecDepth 100000
set_option maxHeartbeats 2000000
namespace Kf
open PySem PySem.Spec PyProof.Rows L2 LamX NdefX TL
/-! ## values that may be events -/
/-- no event by its data -/
def NoEv (d : PyData) : Prop := SeqAt.shaped d = true ∧ ∀ e, PyData.eqv (partD e) d = false
/-- what v is, as an event; what it is hangs on the places fp alone -/
structure EvOf (K : PySem.W.Frag) (H : Hp) (fp : List Addr) (v : V) (o : Option (Str × Str)) : Prop where
  kind : ∀ b ∈ fp, ∃ u, H b = some u ∧ (∀ ps, u ≠ .tbl ps) ∧ ∀ C dx fs, u ≠ .ins C dx fs
  is : match o with
    | some e => ∀ H', (∀ b ∈ fp, H' b = H b) → PartAt K H' v e
    | none => (∃ d, NoEv d ∧ ∀ H', (∀ b ∈ fp, H' b = H b) → Dp K H' v d) ∨ ∃ b kvs, v = .ref b ∧ b ∈ fp ∧ H b = some (.dK kvs)
theorem EvOf.to {K : PySem.W.Frag} {H H' : Hp} {fp : List Addr} {v : V} {o : Option (Str × Str)} (h : EvOf K H fp v o) (k : ∀ b ∈ fp, ∀ u, H b = some u → (∀ ps, u ≠ .tbl ps) → (∀ C dx fs, u ≠ .ins C dx fs) → H' b = some u) : EvOf K H' fp v o := by
  have e : ∀ b ∈ fp, H' b = H b := fun b hb => by
    obtain ⟨u, h1, h2, h3⟩ := h.kind b hb
    rw [k b hb u h1 h2 h3, h1]
  refine ⟨fun b hb => ?_, ?_⟩
  · obtain ⟨u, h1, h2, h3⟩ := h.kind b hb
    exact ⟨u, by rw [e b hb, h1], h2, h3⟩
  · have hi := h.is
    cases o with
    | some x => exact fun H2 h2 => hi H2 fun b hb => (h2 b hb).trans (e b hb)
    | none =>
      rcases hi with ⟨d, h1, h2⟩ | ⟨b, kvs, h1, h2, h3⟩
      · exact .inl ⟨d, h1, fun H2 h3 => h2 H2 fun b hb => (h3 b hb).trans (e b hb)⟩
      · exact .inr ⟨b, kvs, h1, h2, by rw [e b h2, h3]⟩
theorem EvOf.sm {T : List NTab} {K : PySem.W.Frag} {H H' : Hp} {fp : List Addr} {v : V} {o : Option (Str × Str)} (h : EvOf K H fp v o) (s : Sm T H H') : EvOf K H' fp v o := h.to fun b _ u h1 h2 _ => s.kp b u h1 h2
theorem EvOf.part {K : PySem.W.Frag} {H : Hp} {fp : List Addr} {v : V} {e : Str × Str} (h : EvOf K H fp v (some e)) : PartAt K H v e := h.is H fun _ _ => rfl
def rNotInX (K : PySem.W.Frag) : R2 := fun x y H Q => rNotInD K x y H Q ∨ rNotInT K x y H Q
theorem op_notInD {X : Cx} (hu : X.A.units + 65 < cLine) : OpR X (compareOp .NotIn) (rNotInX X.K) := fun pins s σ H x y v u Q I rx ry h => by
  rcases h with h | h
  · exact L2.op_notInD hu pins s σ H x y v u Q I rx ry h
  · exact L2.op_notInT hu pins s σ H x y v u Q I rx ry h
/-- v is in no way among es -/
def BadEv (es : List (Str × Str)) : Option (Str × Str) → Prop
  | none => True
  | some e => e ∉ es
theorem noEv_any {d : PyData} (h : NoEv d) (es : List (Str × Str)) : ((es.map partD).any fun z => PyData.eqv z d) = false := by
  rw [List.any_eq_false]
  intro z hz
  obtain ⟨e, _, rfl⟩ := List.mem_map.mp hz
  rw [h.2 e]
  simp
theorem part_any {e : Str × Str} {es : List (Str × Str)} (h : e ∉ es) : ((es.map partD).any fun z => PyData.eqv z (partD e)) = false := by
  rw [List.any_eq_false]
  intro z hz
  obtain ⟨e2, h2, rfl⟩ := List.mem_map.mp hz
  rw [eqv_part, decide_eq_false fun z => h (by rw [← z]; exact h2)]
  simp
/-- the test `event not in events` where it holds -/
theorem notIn_bad {K : PySem.W.Frag} {H : Hp} {fp : List Addr} {v : V} {o : Option (Str × Str)} {p : Addr} {xs : List V} {es : List (Str × Str)} {Q : VK} (h : EvOf K H fp v o) (hb : BadEv es o) (hp : H p = some (.lst xs)) (hx : Paired (PartAt K H) xs es) (sho : ∀ e, o = some e → SeqAt.shaped (partD e) = true) (she : SeqAt.shaped (.list (es.map partD)) = true) (q : Q (.bl true) H) : rNotInX K v (.ref p) H Q := by
  cases o with
  | some e => exact .inl ⟨partD e, es.map partD, h.part.dp, .lst (.of hp) (dp_pairs hx), sho e rfl, she, by rw [part_any hb]; exact q⟩
  | none =>
    rcases h.is with ⟨d, h1, h2⟩ | ⟨b, kvs, rfl, _, h3⟩
    · exact .inl ⟨d, es.map partD, h2 H fun _ _ => rfl, .lst (.of hp) (dp_pairs hx), h1.1, she, by rw [noEv_any h1]; exact q⟩
    · refine .inr ⟨b, kvs, p, xs, rfl, rfl, h3, .of hp, fun v hv => ?_, q⟩
      obtain ⟨i, hi⟩ := List.mem_iff_getElem?.mp hv
      obtain ⟨e, _, t, rfl, ht⟩ := paired_get hx hi
      exact ⟨t, _, rfl, ht⟩
/-! ## is_list of any value -/
structure NotSeq (K : PySem.W.Frag) (H : Hp) (v : V) : Prop where
  is : v = .non ∨ (∃ b, v = .bl b) ∨ (∃ i, v = .int i) ∨ (∃ z, v = .str z) ∨ ∃ b kvs, v = .ref b ∧ H b = some (.dK kvs)
theorem NotSeq.same {K : PySem.W.Frag} {H H' : Hp} {v : V} (h : NotSeq K H v) (s : Same H H') : NotSeq K H' v := by
  rcases h.is with h | h | h | h | ⟨b, kvs, h1, h2⟩
  · exact ⟨.inl h⟩
  · exact ⟨.inr (.inl h)⟩
  · exact ⟨.inr (.inr (.inl h))⟩
  · exact ⟨.inr (.inr (.inr (.inl h)))⟩
  · exact ⟨.inr (.inr (.inr (.inr ⟨b, kvs, h1, s _ _ h2⟩)))⟩
section
variable {P : Program} {w : World} {K : PySem.W.Frag} {mg : Str → Option Value} {base : Heap}
def spIsListF (K : PySem.W.Frag) : Sp := fun vs H Q _ => ∃ v, vs = [v] ∧ NotSeq K H v ∧ ∀ H', Same H H' → Q (.bl false) H'
theorem ok_is_listF {f : Addr} {fd : FuncData} {k : Nat} (F : L2.Fun K "is_list" "is_list" s_is_list f fd) (T : Nm mg) : FnOk P w K mg base CX0 (k + 1) f fd ["value"] (spIsListF K) := by
  refine F.ok sc_is_list (fun vs H Q E h => ?_) (fun cdv A outer s H vs Q E hr h => ?_)
  · obtain ⟨v, rfl, _⟩ := h
    rfl
  · obtain ⟨v, rfl, hv, q⟩ := h
    refine ⟨_, (pss_one (ps_ret (pe_callB call_isiT (by rfl) T.n_isinstance (by decide +kernel) (pa_cons (pv 0) (pa_cons (pe_tup (pa_cons (pe_bltn (v := .ty "list") (by rfl) T.n_list (by decide +kernel) rfl) (pa_cons (pe_bltn (v := .ty "tuple") (by rfl) T.n_tuple (by decide +kernel) rfl) pa_nil))) pa_nil))))), ?_⟩
    refine ⟨v, rfl, by show 2 ≤ sizeLine; decide, fun p np => ?_⟩
    have s1 : Same H (upd H p (.tup [.ty "list", .ty "tuple"])) := Same.new np
    have no2 : ∀ {t : Value}, PySem.W.kitOne K t (.type "list") = some false → PySem.W.kitOne K t (.type "tuple") = some false → PySem.W.kitAny K t [.type "list", .type "tuple"] = some false := fun h1 h2 => kitAny_cons h1 (fun _ => kitAny_cons h2 (fun _ => kitAny_nil) (fun z => nomatch z)) (fun z => nomatch z)
    rcases hv.is with rfl | ⟨b, rfl⟩ | ⟨i, rfl⟩ | ⟨z, rfl⟩ | ⟨b, kvs, rfl, hb⟩
    · exact ⟨_, p, [.ty "list", .ty "tuple"], .type "NoneType", [.type "list", .type "tuple"], false, rfl, upd_same, .cons (.ty _) (.cons (.ty _) .nil), .base .non, no2 (kit_ty (by decide +kernel)) (kit_ty (by decide +kernel)), q _ s1⟩
    · exact ⟨_, p, [.ty "list", .ty "tuple"], .type "bool", [.type "list", .type "tuple"], false, rfl, upd_same, .cons (.ty _) (.cons (.ty _) .nil), .base (.bl b), no2 (kit_ty (by decide +kernel)) (kit_ty (by decide +kernel)), q _ s1⟩
    · exact ⟨_, p, [.ty "list", .ty "tuple"], .type "int", [.type "list", .type "tuple"], false, rfl, upd_same, .cons (.ty _) (.cons (.ty _) .nil), .base (.int i), no2 (kit_ty (by decide +kernel)) (kit_ty (by decide +kernel)), q _ s1⟩
    · exact ⟨_, p, [.ty "list", .ty "tuple"], .type "str", [.type "list", .type "tuple"], false, rfl, upd_same, .cons (.ty _) (.cons (.ty _) .nil), .base (.str z), no2 (kit_ty (by decide +kernel)) (kit_ty (by decide +kernel)), q _ s1⟩
    · exact ⟨_, p, [.ty "list", .ty "tuple"], .type "dict", [.type "list", .type "tuple"], false, rfl, upd_same, .cons (.ty _) (.cons (.ty _) .nil), .base (.dK (s1 _ _ hb)), no2 (kit_ty (by decide +kernel)) (kit_ty (by decide +kernel)), q _ s1⟩
end
end Kf

set_option Elab.async false
set_option linter.all false
set_option maxRecDepth 100000
set_option maxHeartbeats 2000000
namespace Kf
open PySem PySem.Spec PyProof.Rows L2 LamX NdefX TL
/-! ## do_all where an item may be no event -/
theorem RowOk.take {ps : List (Str × Str)} {gs : List G} {cs : List (Str × List Str)} : ∀ {es : List (Str × Str)} {s : St3}, RowOk ps gs cs s es → ∀ (i : Nat), RowOk ps gs cs s (es.take i)
  | _, _, _, 0 => by rw [List.take_zero]; exact .nil
  | _, _, .nil, i + 1 => .nil
  | _, _, .cons h t, i + 1 => .cons h (t.take i)
section
variable {P : Program} {w : World} {K : PySem.W.Frag} {mg : Str → Option Value} {base : Heap}
/-- os: first events that are possible one behind the other, then perhaps one that isn't -/
def Cut (ps : List (Str × Str)) (gs : List G) (cs : List (Str × List Str)) (s : St3) (os : List (Option (Str × Str))) (es : List (Str × Str)) (bad : Bool) : Prop :=
  RowOk ps gs cs s es ∧ ∃ t, os = es.map some ++ t ∧ ((bad = false ∧ t = []) ∨ (bad = true ∧ ∃ o r, t = o :: r ∧ BadEv (eventsIn ps (runSt ps gs cs s es).1 (runSt ps gs cs s es).2.1) o))
def EvsAt (K : PySem.W.Frag) (H : Hp) (xs : List V) (os : List (Option (Str × Str))) : Prop := Paired (fun v o => (∀ e, o = some e → SeqAt.shaped (partD e) = true) ∧ ∃ fp, EvOf K H fp v o) xs os
theorem EvsAt.sm {T : List NTab} {H H' : Hp} {xs : List V} {os : List (Option (Str × Str))} (h : EvsAt K H xs os) (s : Sm T H H') : EvsAt K H' xs os := Paired.imp2 (fun _ _ r => ⟨r.1, let ⟨fp, z⟩ := r.2; ⟨fp, z.sm s⟩⟩) h
/-- raised: an exception with the index i -/
def Raised (T0 : List NTab) (NE : Addr) (i : Int) (H : Hp) (E : XK) : Prop := ∀ H' dd, Sm T0 H H' → H dd = none → H' dd = some (.xd [("index", .int i)]) → E (.ref NE) (some dd) H'
def spDoAllX (K : PySem.W.Frag) (C CR NE : Addr) (T0 : List NTab) : Sp := fun vs H Q E => ∃ x v ps gs cs tp s, vs = [.ref x, v] ∧ RnObj K C CR H x ps gs cs tp s ∧ RunOk ps gs cs tp s.2.1 ∧ FailOk ps s.1 ∧ TabsN T0 H ∧
  ((NotSeq K H v ∧ Raised T0 NE 0 H E) ∨ ∃ r xs os es bad, v = .ref r ∧ Sq K H r xs ∧ EvsAt K H xs os ∧ Cut ps gs cs s os es bad ∧ os.length ≤ 1000 ∧ (bad = true → Raised T0 NE (es.length : Int) H E) ∧
    (bad = false → ∀ H' p acc, SmX x T0 H H' → RnObj K C CR H' x ps gs cs tp (runSt ps gs cs s es) → H p = none → H' p = some (.lst acc) → Paired (TxtsAt K H') acc (runFl ps gs cs s es) → Q (.ref p) H'))
theorem runFl_length {ps : List (Str × Str)} {gs : List G} {cs : List (Str × List Str)} : ∀ (l : List (Str × Str)) (s : St3), (runFl ps gs cs s l).length = l.length
  | [], _ => rfl
  | _ :: r, s => by show (runFl ps gs cs _ r).length + 1 = _; rw [runFl_length r]; rfl
theorem small_idx {i : Nat} (h : i ≤ 1000) : (i : Int).natAbs.log2 < 1920 := by
  have e : ((i : Int)).natAbs = i := by omega
  rw [e]
  exact Nat.lt_of_le_of_lt (Nat.log2_le_self i) (by omega)
theorem ok_do_allX {f C CR NE : Addr} {fd : FuncData} {T0 : List NTab} (F : L2.Fun K "do_all" "Run.do_all" s_Run_do_all f fd) (T : Nm mg) (LR : RnC K mg CR) (N_e : FtMk P w K mg base 1 "NoEvent" NE "index") (C_is_list : Cal P w K mg base 1 "is_list" ["value"] (spIsList K)) (C_is_listF : Cal P w K mg base 1 "is_list" ["value"] (spIsListF K)) (C_events_in : Cal P w K mg base 3 "events_in" ["plant", "state"] (spEventsIn K C)) (C_after : Cal P w K mg base 7 "after" ["plant", "state", "event"] (spAfter K C T0)) (M_enter : C8.Met P w K mg base 6 CR "_enter" (spEnter K C CR T0) []) :
    FnOk P w K mg base (L2.CX P w) 8 f fd ["self", "events"] (spDoAllX K C CR NE T0) := by
  refine F.okX sc_Run_do_all (fun vs H Q E h => ?_) (fun cdv A outer s H vs Q E hr h => ?_)
  · obtain ⟨x, v, ps, gs, cs, tp, s, rfl, _⟩ := h
    rfl
  · obtain ⟨x, w0, ps, gs, cs, tp, s3, rfl, hR, ok, fok, hT, hcase⟩ := h
    obtain ⟨dx, a, v, hx, ho, hst⟩ := hR.ex
    have hu := hu_of hr
    have hu65 : (A.deeper (envOfC "Run.do_all" (defScope s_Run_do_all) s.heap.objs.size f cdv)).units + 65 < cLine := by have := hr.un; omega
    rcases hcase with ⟨hns, hE⟩ | ⟨r, xs, os, es, bad, rfl, hr', hev, ⟨row, tl, eos, hcut⟩, hel, hbad, hgood⟩
    · refine ⟨_, (pss_cons (ps_if (pt_not (pt_val (pe_cal C_is_listF (by decide) hr (by rfl) (pa_cons (pv 1) pa_nil))))
 (pss_one (ps_raise (W := fun cls d _ H' => E cls d H') rfl (takes_of rfl rfl rfl rfl) (pmk_fault N_e (by decide) hr (by rfl) pe_int (fun _ _ _ _ m h => m _ _ h))))
 pss_nil)
 (pss_cons (ps_set (i := 2) sc_Run_do_all.nd rfl (.inl rfl) (pe_fld (pv 0) rfl))
 (pss_cons (ps_set (i := 3) sc_Run_do_all.nd rfl (.inl rfl) (pe_lst pa_nil))
 (pss_cons (ps_for PassesOwn.leaving rfl (pi_enumQ (by rfl) T.n_enumerate (pa_cons (pv 1) pa_nil)) (pg_tupK (K := K) (n := 2) rfl rfl (pgs_cons (pg_name (i := 4) sc_Run_do_all.nd rfl (.inl rfl)) (pgs_cons (pg_name (i := 5) sc_Run_do_all.nd rfl (.inl rfl)) pgs_nil)))
 (pss_cons (ps_if (pt_cmpR (op_notInD hu65) (pv 5) (pe_cal C_events_in (by decide) hr (by rfl) (pa_cons (pe_fld (pv 0) rfl) (pa_cons (pv 2) pa_nil))) (by with_unfolding_all rfl))
 (pss_one (ps_raise (W := fun cls d _ H' => E cls d H') rfl (takes_of rfl rfl rfl rfl) (pmk_fault N_e (by decide) hr (by rfl) (pv 4) (fun _ _ _ _ m h => (by obtain ⟨v, e, h⟩ := h; exact ⟨v, e, m _ _ h⟩)))))
 pss_nil)
 (pss_cons (ps_asg (pe_cal C_after (by decide) hr (by rfl) (pa_cons (pe_fld (pv 0) rfl) (pa_cons (pv 2) (pa_cons (pv 5) pa_nil)))) (pg_tupK (K := K) (n := 2) rfl rfl (pgs_cons (pg_name (i := 2) sc_Run_do_all.nd rfl (.inl rfl)) (pgs_cons (pg_name (i := 6) sc_Run_do_all.nd rfl (.inl rfl)) pgs_nil))))
 (pss_one (ps_expr (pe_bm PySem.F.plainAttrs_list PySem.F.slot_list_append PySem.F.type_list_append mt_append (pv 3) (pa_cons (pv 6) pa_nil)))))))
 (pss_cons (ps_expr (C8.pe_mt M_enter hr (by decide) (pv 0) (pa_cons (pv 2) pa_nil)))
 (pss_one (ps_ret (pv 3)))))))), ?_⟩
      refine ⟨w0, rfl, ⟨w0, rfl, hns, fun H1 s1 => ⟨false, rfl, iteT ?_⟩⟩⟩
      exact ⟨0, rfl, by decide, fun dd nd => hE _ dd ((Same.sm (T := T0) s1).trans (Same.sm (Same.new nd))) (s1.free nd) upd_same⟩
    · refine ⟨_, (pss_cons (ps_if (pt_not (pt_val (pe_cal C_is_list (by decide) hr (by rfl) (pa_cons (pv 1) pa_nil))))
 (pss_one (ps_raise (W := fun cls d _ H' => E cls d H') rfl (takes_of rfl rfl rfl rfl) (pmk_fault N_e (by decide) hr (by rfl) pe_int (fun _ _ _ _ m h => m _ _ h))))
 pss_nil)
 (pss_cons (ps_set (i := 2) sc_Run_do_all.nd rfl (.inl rfl) (pe_fld (pv 0) rfl))
 (pss_cons (ps_set (i := 3) sc_Run_do_all.nd rfl (.inl rfl) (pe_lst pa_nil))
 (pss_cons (ps_for PassesOwn.leaving rfl (pi_enumQ (by rfl) T.n_enumerate (pa_cons (pv 1) pa_nil)) (pg_tupK (K := K) (n := 2) rfl rfl (pgs_cons (pg_name (i := 4) sc_Run_do_all.nd rfl (.inl rfl)) (pgs_cons (pg_name (i := 5) sc_Run_do_all.nd rfl (.inl rfl)) pgs_nil)))
 (pss_cons (ps_if (pt_cmpR (op_notInD hu65) (pv 5) (pe_cal C_events_in (by decide) hr (by rfl) (pa_cons (pe_fld (pv 0) rfl) (pa_cons (pv 2) pa_nil))) (by with_unfolding_all rfl))
 (pss_one (ps_raise (W := fun cls d _ H' => E cls d H') rfl (takes_of rfl rfl rfl rfl) (pmk_fault N_e (by decide) hr (by rfl) (pv 4) (fun _ _ _ _ m h => (by obtain ⟨v, e, h⟩ := h; exact ⟨v, e, m _ _ h⟩)))))
 pss_nil)
 (pss_cons (ps_asg (pe_cal C_after (by decide) hr (by rfl) (pa_cons (pe_fld (pv 0) rfl) (pa_cons (pv 2) (pa_cons (pv 5) pa_nil)))) (pg_tupK (K := K) (n := 2) rfl rfl (pgs_cons (pg_name (i := 2) sc_Run_do_all.nd rfl (.inl rfl)) (pgs_cons (pg_name (i := 6) sc_Run_do_all.nd rfl (.inl rfl)) pgs_nil))))
 (pss_one (ps_expr (pe_bm PySem.F.plainAttrs_list PySem.F.slot_list_append PySem.F.type_list_append mt_append (pv 3) (pa_cons (pv 6) pa_nil)))))))
 (pss_cons (ps_expr (C8.pe_mt M_enter hr (by decide) (pv 0) (pa_cons (pv 2) pa_nil)))
 (pss_one (ps_ret (pv 3)))))))), ?_⟩
      obtain ⟨bb, hrb⟩ := hr'.b
      refine ⟨.ref r, rfl, ⟨.ref r, rfl, ⟨r, xs, rfl, hr'⟩, fun H1 s1 => ⟨true, rfl, iteF ?_⟩⟩⟩
      refine tNext_of ?_
      refine ⟨.ref x, rfl, x, CR, dx, _, v, rfl, s1 _ _ hx, LR.cl, LR.nS, rnF_s, ?_⟩
      refine ⟨Nat.zero_le _, fun M nM => ?_⟩
      have s2 := s1.trans (Same.new (o := .lst []) nM)
      have nM0 : H M = none := s1.free nM
      have elx : xs.length = os.length := Paired.length hev
      have elo : os.length = es.length + tl.length := by rw [eos, List.length_append, List.length_map]
      refine ⟨.ref r, rfl, r, bb, rfl, ⟨xs, Same.sqb s2 hrb⟩, for_it (walk_enumQ (b := bb) (xs := xs)) (fun i σ H2 => ∃ v2 y4 y5 y6 acc, σ = [some (.ref x), some (.ref r), some v2, some (.ref M), y4, y5, y6] ∧ Sm T0 H H2 ∧ St3At K H2 v2 (runSt ps gs cs s3 (es.take i)) ∧ H2 M = some (.lst acc) ∧ Paired (TxtsAt K H2) acc (runFl ps gs cs s3 (es.take i)) ∧ i ≤ es.length) ⟨v, _, _, _, [], rfl, Same.sm s2, hst.same s2, upd_same, .nil, Nat.zero_le _⟩ (fun i σ H2 hi p => ?_) (fun i y σ H2 H3 hi p yy => ?_) (fun σ H2 p => ?_)⟩
      · obtain ⟨_, _, _, _, _, _, sm, _⟩ := p
        exact sm.sqb hrb
      · obtain ⟨v2, y4, y5, y6, acc, rfl, sm, hv2, hM, hacc, hile⟩ := p
        obtain ⟨T', i', ev, rfl, nT, rfl, hi', hev'⟩ := yy
        obtain rfl := Option.some.inj hi'
        obtain ⟨o, hoi, sho, fp, hof⟩ := paired_get hev hev'
        have row2 := row.take i
        obtain ⟨ok2, fok2⟩ := row2.all ok fok
        have s3' : Same H2 (upd H2 T' (.tup [.int (i : Int), ev])) := Same.new nT
        have sm3 := sm.trans (Same.sm (T := T0) s3')
        have hx3 := sm3.lst hx (by intro _ z; cases z)
        have hpl := ok.pl.parts.hi
        have hfl := fok2.len
        have hil1000 : i ≤ 1000 := by omega
        by_cases hil : i < es.length
        · obtain ⟨e, he⟩ : ∃ e, es[i]? = some e := ⟨es[i], List.getElem?_eq_getElem hil⟩
          obtain rfl : o = some e := by
            rw [eos, List.getElem?_append_left (by rw [List.length_map]; exact hil), List.getElem?_map, he] at hoi
            exact (Option.some.inj hoi).symm
          obtain ⟨_, _, hin⟩ := row.at ok fok he
          have rev := hof.part
          have eTake : es.take (i + 1) = es.take i ++ [e] := by rw [List.take_add_one, he]; rfl
          generalize eS : runSt ps gs cs s3 (es.take i) = si at *
          refine ⟨T', _, rfl, .of upd_same, rfl, .int (i : Int), _, rfl, ev, [], rfl, rfl, ?_⟩
          refine ⟨ev, rfl, .ref x, rfl, x, CR, dx, _, .ref a, rfl, hx3, LR.cl, LR.nP, rnF_p, v2, rfl, ⟨a, v2, ps, gs, cs, tp, si.1, si.2.1, si.2.2, rfl, ho.sm sm3, hv2.same s3', by omega, by omega, by have := ok2.ul; omega, fun H4 p xs4 s4 np hp hxs => ?_⟩⟩
          have sh1 := evSh ok.pl.parts fok2 (evIn hin)
          have sm4 := sm3.trans (Same.sm (T := T0) s4)
          have s34 := s3'.trans s4
          refine .inl ⟨partD e, (eventsIn ps si.1 si.2.1).map partD, (PartAt.kt sm4.kt rev).dp, .lst (.of hp) (dp_pairs hxs), sh1.shaped (by decide), shaped_list fun d hd => ?_, false, by rw [any_part hin]; rfl, iteF ?_⟩
          · obtain ⟨e2, he2, rfl⟩ := List.mem_map.mp hd
            exact (evSh ok.pl.parts fok2 (evIn he2)).up (by decide)
          refine tNext_of ?_
          have hx4 := s4 _ _ hx3
          refine ⟨.ref x, rfl, x, CR, dx, _, .ref a, rfl, hx4, LR.cl, LR.nP, rnF_p, v2, rfl, ev, rfl, ⟨a, v2, ev, e, ps, gs, cs, tp, si, rfl, ho.sm sm4, hv2.same s34, PartAt.kt sm4.kt rev, ok2, fok2, evIn hin, sm4.tb hT, fun H5 p' v' t' sm5 hp' hv' ht' => ?_⟩⟩
          refine ⟨p', _, rfl, hp', rfl, v', _, rfl, .ref t', [], rfl, rfl, ?_⟩
          have sm25 : Sm T0 H2 H5 := (Same.sm s34).trans sm5
          have hM5 := sm25.list hM
          have lacc : acc.length ≤ 1000 := by
            have h1 := Paired.length hacc
            rw [runFl_length, List.length_take] at h1
            omega
          refine ⟨.ref M, rfl, .inl ⟨rfl, _, .of hM5⟩, .ref t', rfl, M, acc, .ref t', rfl, rfl, hM5, small1000 lacc, ?_⟩
          have smF : Sm T0 H (upd H5 M (.lst (acc ++ [.ref t']))) := (sm.trans sm25).at nM0 hM5
          have kt5 : KT K H5 (upd H5 M (.lst (acc ++ [.ref t']))) := kt_lst hM5
          refine ⟨v', _, _, _, acc ++ [.ref t'], rfl, smF, ?_, upd_same, ?_, hil⟩
          · rw [eTake, runSt_snoc, eS]
            exact hv'.lset hM5
          · rw [eTake, runFl_snoc, eS]
            refine Paired.app ⟨t', rfl, kt5 _ _ ht'⟩ (Paired.imp2 (fun _ _ h => ?_) hacc)
            obtain ⟨b, z1, z2⟩ := h
            exact ⟨b, z1, kt5 _ _ (sm25.sqt z2)⟩
        · have ei : i = es.length := by omega
          subst ei
          rw [List.take_length] at hv2 hacc ok2 fok2
          rcases hcut with ⟨_, rfl⟩ | ⟨rfl, o2, rr, rfl, hbo⟩
          · exfalso
            rw [eos, List.append_nil] at hoi
            have := (List.getElem?_eq_some_iff.mp hoi).1
            rw [List.length_map] at this
            omega
          · obtain rfl : o = o2 := by
              rw [eos, List.getElem?_append_right (by rw [List.length_map]; omega), List.length_map, Nat.sub_self] at hoi
              exact (Option.some.inj hoi).symm
            generalize eS : runSt ps gs cs s3 es = si at *
            refine ⟨T', _, rfl, .of upd_same, rfl, .int (es.length : Int), _, rfl, ev, [], rfl, rfl, ?_⟩
            refine ⟨ev, rfl, .ref x, rfl, x, CR, dx, _, .ref a, rfl, hx3, LR.cl, LR.nP, rnF_p, v2, rfl, ⟨a, v2, ps, gs, cs, tp, si.1, si.2.1, si.2.2, rfl, ho.sm sm3, hv2.same s3', by omega, by have := fok2.len; omega, by have := ok2.ul; omega, fun H4 p xs4 s4 np hp hxs => ?_⟩⟩
            have sm4 := sm3.trans (Same.sm (T := T0) s4)
            refine notIn_bad (hof.sm sm4) hbo hp hxs sho (shaped_list fun d hd => ?_) ⟨true, rfl, iteT ?_⟩
            · obtain ⟨e2, he2, rfl⟩ := List.mem_map.mp hd
              exact (evSh ok.pl.parts fok2 (evIn he2)).up (by decide)
            exact ⟨.int (es.length : Int), rfl, (es.length : Int), rfl, small_idx hil1000, fun dd nd => hbad rfl _ dd (sm4.trans (Same.sm (Same.new nd))) (sm4.nn dd nd) upd_same⟩
      · obtain ⟨v2, y4, y5, y6, acc, rfl, sm, hv2, hM, hacc, hle⟩ := p
        have htl : tl = [] := List.eq_nil_of_length_eq_zero (by omega)
        subst htl
        rcases hcut with ⟨rfl, _⟩ | ⟨_, o2, rr, z, _⟩
        · have elx2 : xs.length = es.length := by rw [elx, elo]; rfl
          rw [elx2, List.take_length] at hv2 hacc
          obtain ⟨ok2, fok2⟩ := row.all ok fok
          have hx2 := sm.lst hx (by intro _ z; cases z)
          have ho2 := ho.sm sm
          refine ⟨.ref x, rfl, x, dx, _, rfl, hx2, rnF_no (by decide +kernel) (by decide +kernel) (by decide +kernel), v2, rfl, ⟨x, v2, dx, _, a, ps, gs, cs, tp, runSt ps gs cs s3 es, rfl, hx2, .inr ⟨_, _, rfl⟩, ho2, hv2, ok2, sm.tb hT, fun H3 x3 hx3 => ?_⟩⟩
          have ne := ho2.ne hx2 (.inr ⟨_, _, rfl⟩)
          refine ⟨.ref M, rfl, hgood rfl H3 M acc (sm.x.trans x3) ⟨dx, a, v2, hx3, ho2.smx x3 hx2 ne, StAt.smx x3 hx2 hv2⟩ nM0 (x3.kp _ _ hM (by intro _ z; cases z) (ne_of hM hx2 (by intro z; cases z))) (Paired.imp2 (fun _ _ h => ?_) hacc)⟩
          obtain ⟨b, z1, z2⟩ := h
          exact ⟨b, z1, x3.sqt hx2 z2⟩
        · cases z
end
end Kf

set_option Elab.async false
set_option linter.all false
set_option maxRecDepth 100000
set_option maxHeartbeats 2000000
namespace Kf
open PySem PySem.Spec PyProof.Rows L2 LamX NdefX TL
section
variable {P : Program} {w : World} {K : PySem.W.Frag} {mg : Str → Option Value} {base : Heap}
def spDoX (K : PySem.W.Frag) (C CR NE : Addr) (T0 : List NTab) : Sp := fun vs H Q E => ∃ x ev o ps gs cs tp s, vs = [.ref x, ev] ∧ RnObj K C CR H x ps gs cs tp s ∧ RunOk ps gs cs tp s.2.1 ∧ FailOk ps s.1 ∧ TabsN T0 H ∧ (∀ e, o = some e → SeqAt.shaped (partD e) = true) ∧ (∃ fp, EvOf K H fp ev o) ∧
  ((BadEv (eventsIn ps s.1 s.2.1) o ∧ Raised T0 NE 0 H E) ∨ ∃ e, o = some e ∧ e ∈ eventsIn ps s.1 s.2.1 ∧ ∀ H' v, SmX x T0 H H' → RnObj K C CR H' x ps gs cs tp (nextOf ps gs cs s e).1 → TxtsAt K H' v (nextOf ps gs cs s e).2 → Q v H')
theorem Raised.sm {T0 : List NTab} {NE : Addr} {i : Int} {H H' : Hp} {E : XK} (h : Raised T0 NE i H E) (s : Sm T0 H H') : Raised T0 NE i H' E := fun H2 dd s2 n e => h H2 dd (s.trans s2) (s.nn dd n) e
theorem ok_doX {f C CR NE : Addr} {fd : FuncData} {T0 : List NTab} (F : L2.Fun K "do" "Run.do" s_Run_do f fd) (T : Nm mg) (X_do_all : MetX P w K mg base 8 CR "do_all" (spDoAllX K C CR NE T0)) : FnOk P w K mg base (L2.CX P w) 9 f fd ["self", "event"] (spDoX K C CR NE T0) := by
  refine F.okX sc_Run_do (fun vs H Q E h => ?_) (fun cdv A outer s H vs Q E hr h => ?_)
  · obtain ⟨x, ev, o, ps, gs, cs, tp, s, rfl, _⟩ := h
    rfl
  · obtain ⟨x, ev, o, ps, gs, cs, tp, s3, rfl, hR, ok, fok, hT, sho, ⟨fp, hof⟩, hc⟩ := h
    obtain ⟨dx, a, v, hx, ho, hst⟩ := hR.ex
    refine ⟨_, pss_one (ps_ret (pe_ix ix_list (pe_mX (W := fun cls d _ H' => E cls d H') (E := E) X_do_all (takes_of rfl rfl rfl rfl) (fun _ _ _ _ h => h) hr (by decide) (pv 0) (pa_cons (pe_lst (pa_cons (pv 1) pa_nil)) pa_nil)) pe_int (fun _ _ => rfl))), ?_⟩
    refine ⟨.ref x, rfl, x, dx, _, rfl, hx, rnF_no (by decide +kernel) (by decide +kernel) (by decide +kernel), ev, rfl, by show 1 ≤ sizeLine; decide, fun l nl => ?_⟩
    have s1 : Same H (upd H l (.lst [ev])) := Same.new nl
    have sm1 : Sm T0 H _ := Same.sm s1
    have evs : EvsAt K (upd H l (.lst [ev])) [ev] [o] := .cons ⟨sho, fp, hof.sm sm1⟩ .nil
    rcases hc with ⟨hb, hE⟩ | ⟨e, rfl, hin, q⟩
    · refine ⟨x, .ref l, ps, gs, cs, tp, s3, rfl, hR.sm sm1, ok, fok, hT.ext s1, .inr ⟨l, [ev], [o], [], true, rfl, .inl (.of upd_same), evs, ⟨.nil, [o], rfl, .inr ⟨rfl, o, [], rfl, hb⟩⟩, by show 1 ≤ 1000; decide, fun _ => hE.sm sm1, fun z => by cases z⟩⟩
    · refine ⟨x, .ref l, ps, gs, cs, tp, s3, rfl, hR.sm sm1, ok, fok, hT.ext s1, .inr ⟨l, [ev], [some e], [e], false, rfl, .inl (.of upd_same), evs, ⟨.cons hin .nil, [], rfl, .inl ⟨rfl, rfl⟩⟩, by show 1 ≤ 1000; decide, (fun z => by cases z), fun _ H2 p acc x2 hR2 np hp hacc => ?_⟩⟩
      cases hacc with
      | cons h0 t =>
        cases t
        exact ⟨p, _, 0, _, rfl, rfl, .of hp, at0, q H2 _ (sm1.x.trans x2) hR2 h0⟩
end
end Kf

set_option Elab.async false
set_option linter.all false
set_option maxRecDepth 100000
set_option maxHeartbeats 2000000
namespace Kf
open PySem PySem.Spec PyProof.Rows L2 LamX NdefX TL
/-! ## _law_caught: the index of what is raised, or 'done' -/
theorem Takes.len {X : Cx} {W W' : WX} (t : Takes X W) (h : ∀ c d (σ : L2.St) H, σ.length = X.N.length → W' c d σ H → W c d σ H) : Takes X W' := fun u s' ⟨a, B, sI, pins, σ, H, cls, d, e, I, nb, up, sky, na, os, ag, w⟩ =>
  t u s' ⟨a, B, sI, pins, σ, H, cls, d, e, I, nb, up, sky, na, os, ag, h _ _ _ _ I.len w⟩
/-- what leaves: the error with an index, and how it goes on -/
def Ends (NE : Addr) (H0 : Hp) (Q : VK) : XK := fun cls d H' => cls = .ref NE ∧ ∃ dd i, d = some dd ∧ H' dd = some (.xd [("index", .int i)]) ∧ Q (.int i) H'
def TTcaught (NE : Addr) : (XK → Hp → VK → Prop) → Hp → VK → Prop := fun tl H Q => tl (Ends NE H Q) H fun _ H' => ∃ v, some (some (V.str "done")) = some (some v) ∧ Q v H'
theorem caught_gives {X : Cx} {x q : Str} {sg : Scope} {g NE : Addr} {cdg : Value} {j : Nat} {p1 p2 p3 p4 p5 p6 p7 p8 p9 p10 p11 p12 p13 p14 p15 : Pos} (XF : XfC X.K NE) (hno : PySem.W.findIn X.K (.ref NE) "index" = some none) (hex : PySem.W.exmOne X.K (.ref NE) (.ref NE) = some true) (hme : X.mg "NoEvent" = some (.ref NE))
    (hge : sg.names.lookup ("NoEvent" : Str) = some .globalImplicit) (hw : sg.names.lookup ("work" : Str) = some .local) (hfd : sg.names.lookup ("found" : Str) = some .local) (hel : sg.names.lookup ("e" : Str) = some .local) :
    GivesTo X ["work", "found", "e"] x sg g cdg [.Assign [.Name "found" p1] (.Constant (.str "done") j p2) p3, .Try [.Expr (.Call (.Name "work" p4) [] [] p5) p6] [.ExceptHandler (some (.Name "NoEvent" p7)) (some "e") [.Assign [.Name "found" p8] (.Attribute (.Name "e" p9) "index" p10) p11] p12] [] [] p13, .Return (some (.Name "found" p14)) p15] "work" q (TTcaught NE) := by
  intro f c' s H Q tl act hc h
  have hgl : Gl (cxOf C8.CX0 X.prog X.w X.K X.mg X.base ["work", "found", "e"] x sg g cdg X.A X.stack s H C8.E0).nox "NoEvent" := hge
  have nd : (["work", "found", "e"] : List Str).Nodup := by decide +kernel
  refine ⟨_, pss_cons (ps_set (i := 1) nd rfl (.inl hfd) pe_str rfl (.inr hfd)) (pss_cons (ps_try_as (X := (cxOf C8.CX0 X.prog X.w X.K X.mg X.base ["work", "found", "e"] x sg g cdg X.A X.stack s H C8.E0).nox) (c := .ref NE) (i := 2) (Wout := fun _ _ _ _ => False)
      (tb := fun W D σ H' => ∃ Ech : XK, (∀ cls d (σ' : L2.St) H2, σ'.length = 3 → Ech cls d H2 → W cls d σ' H2) ∧ σ[0]? = some (some (.ref f)) ∧ H' c' = some (CodeO c' q) ∧ tl Ech H' fun _ H2 => D.nx σ H2)
      (ts := fun a cls d => tAsg (tXf a cls d NE "index" (tVar 2)) (gName 1))
      rfl rfl nd rfl hel ⟨hgl, by decide, .inl hme⟩ LamX.takes0 (fun W pn xe tk _ => ?_) (fun a oe cls d pn hz hf => pss_one (ps_set (i := 1) nd rfl (.inl hfd) (pe_xf XF hno hz hf (pe_var (i := 2) rfl (.inl hel) (by decide) (by decide)) rfl) rfl (.inr hfd)))) (pss_one (ps_ret (pe_var (i := 1) rfl (.inl hfd) (by decide) (by decide))))), ?_⟩
  · refine ⟨fun pins s' σ H' D I h' => ?_⟩
    obtain ⟨Ech, hW, h1, h2, h3⟩ := h'
    have hp := act (fun cls d _ H2 => Ech cls d H2) pn xe Ech p4 p5 (Takes.len tk fun c d σ2 H2 hl he => hW c d σ2 H2 hl he) fun _ _ _ _ h => h
    have hq := pss_one (ps_expr (pos := p6) hp rfl)
    exact hq.run pins s' σ H' D I ⟨h1, h2, h3⟩
  · refine ⟨Ends NE H Q, fun cls d σ' H2 hl he => ?_, rfl, hc, ?_⟩
    · obtain ⟨rfl, dd, i, rfl, hd, hq⟩ := he
      refine ⟨true, hex, fun _ a na => ?_, fun z => by cases z⟩
      have e3 : ∃ y0 y1 y2, σ' = [y0, y1, y2] := by
        match σ', hl with
        | [y0, y1, y2], _ => exact ⟨_, _, _, rfl⟩
      obtain ⟨y0, y1, y2, rfl⟩ := e3
      exact ⟨.ref a, rfl, rfl, rfl, dd, _, .int i, rfl, hd, by simp [List.lookup], .int i, rfl, hq⟩
    · exact h
end Kf

set_option Elab.async false
set_option linter.all false
set_option maxRecDepth 100000
set_option maxHeartbeats 2000000
namespace Kf
open PySem PySem.Spec PyProof.Rows L2 LamX NdefX TL
/-! ## any event -/
/-- is v a tuple -/
def TyIs (K : PySem.W.Frag) (H : Hp) (fp : List Addr) (v : V) (o : Option (Str × Str)) : Bool → Prop
  | true => ∃ t ys, v = .ref t ∧ (∀ H', (∀ b ∈ fp, H' b = H b) → SqT K H' t ys) ∧ (o = none → t ∈ fp ∧ ∃ l, H t = some (.tup l))
  | false => v = .non ∨ (∃ b, v = .bl b) ∨ (∃ i, v = .int i) ∨ (∃ z, v = .str z) ∨ (∃ b kvs, v = .ref b ∧ b ∈ fp ∧ H b = some (.dK kvs)) ∨ ∃ b l, v = .ref b ∧ b ∈ fp ∧ H b = some (.lst l)
structure VE (K : PySem.W.Frag) (d L X : Addr) (H : Hp) (v : V) (o : Option (Str × Str)) (tp : Bool) : Prop where
  ex : ∃ fp, EvOf K H fp v o ∧ (∀ b ∈ fp, b ≠ d ∧ b ≠ L ∧ b ≠ X) ∧ TyIs K H fp v o tp
  sh : ∀ e, o = some e → SeqAt.shaped (partD e) = true
  no : tp = false → o = none
/-- an atom: the same data in every heap -/
structure Atom (v : V) (x : PyData) : Prop where
  dp : ∀ (K : PySem.W.Frag) (H : Hp), Dp K H v x
  sh : ShOk 0 x
theorem at_str {z : Str} (h : StrOk z) : Atom (.str z) (.str z) := ⟨fun _ _ => .str z, sh_str h⟩
theorem at_non : Atom .non .none := ⟨fun _ _ => .non, ⟨rfl, by simp [PyData.depth]⟩⟩
section
variable {K : PySem.W.Frag} {d L X : Addr} {H H' : Hp} {v : V} {o : Option (Str × Str)} {tp : Bool}
theorem VE.to (h : VE K d L X H v o tp) (k : ∀ b u, b ≠ d → b ≠ L → b ≠ X → H b = some u → (∀ ps, u ≠ .tbl ps) → (∀ C dx fs, u ≠ .ins C dx fs) → H' b = some u) : VE K d L X H' v o tp := by
  obtain ⟨fp, h1, h2, h3⟩ := h.ex
  have e : ∀ b ∈ fp, H' b = H b := fun b hb => by
    obtain ⟨u, z1, z2, z3⟩ := h1.kind b hb
    rw [k b u (h2 b hb).1 (h2 b hb).2.1 (h2 b hb).2.2 z1 z2 z3, z1]
  refine ⟨⟨fp, h1.to fun b hb u z1 z2 z3 => k b u (h2 b hb).1 (h2 b hb).2.1 (h2 b hb).2.2 z1 z2 z3, h2, ?_⟩, h.sh, h.no⟩
  cases tp with
  | true =>
    obtain ⟨t, ys, rfl, hs, hn⟩ := h3
    exact ⟨t, ys, rfl, fun H2 h2' => hs H2 fun b hb => (h2' b hb).trans (e b hb), fun z => let ⟨a, l, b⟩ := hn z; ⟨a, l, by rw [e t a, b]⟩⟩
  | false =>
    rcases h3 with h | h | h | h | ⟨b, kvs, z1, z2, z3⟩ | ⟨b, kvs, z1, z2, z3⟩
    · exact .inl h
    · exact .inr (.inl h)
    · exact .inr (.inr (.inl h))
    · exact .inr (.inr (.inr (.inl h)))
    · exact .inr (.inr (.inr (.inr (.inl ⟨b, kvs, z1, z2, by rw [e b z2, z3]⟩))))
    · exact .inr (.inr (.inr (.inr (.inr ⟨b, kvs, z1, z2, by rw [e b z2, z3]⟩))))
theorem VE.same (h : VE K d L X H v o tp) (s : Same H H') : VE K d L X H' v o tp := h.to fun b u _ _ _ e _ _ => s b u e
theorem VE.kp (h : VE K d L X H v o tp) (s : Kp d L H H') : VE K d L X H' v o tp := h.to fun b u n1 n2 _ e _ _ => s b u e n1 n2
theorem VE.sm {T : List NTab} (h : VE K d L X H v o tp) (s : Sm T H H') : VE K d L X H' v o tp := h.to fun b u _ _ _ e n _ => s.kp b u e n
theorem VE.updX {u : HO} (h : VE K d L X H v o tp) : VE K d L X (upd H X u) v o tp := h.to fun b w _ _ n e _ _ => by
  rw [upd_ne n]
  exact e
theorem ve_flat {x : PyData} (a : Atom v x) (n : NoEv x) (t : v = .non ∨ (∃ b, v = .bl b) ∨ (∃ i, v = .int i) ∨ (∃ z, v = .str z)) : VE K d L X H v none false := by
  refine ⟨⟨[], ⟨fun b hb => (by cases hb), .inl ⟨x, n, fun H' _ => a.dp K H'⟩⟩, fun b hb => (by cases hb), ?_⟩, fun e z => (by cases z), fun _ => rfl⟩
  rcases t with h | h | h | h
  · exact .inl h
  · exact .inr (.inl h)
  · exact .inr (.inr (.inl h))
  · exact .inr (.inr (.inr (.inl h)))
theorem noev_of {x : PyData} (h : ShOk 4 x) (n : ∀ a b, PyData.eqv (.tuple [.str a, .str b]) x = false) : NoEv x := ⟨h.shaped (by decide), fun e => n _ _⟩
/-- a new tuple of two texts -/
theorem ve_pair {t : Addr} {a b : Str} (ht : H t = some (.tup [.str a, .str b])) (nd : t ≠ d) (nL : t ≠ L) (nX : t ≠ X) (ha : StrOk a) (hb : StrOk b) : VE K d L X H (.ref t) (some (a, b)) true := by
  refine ⟨⟨[t], ⟨fun c hc => ?_, fun H' h => ⟨t, rfl, ?_⟩⟩, fun c hc => ?_, t, [.str a, .str b], rfl, fun H' h => ?_, fun z => (by cases z)⟩, fun e z => ?_, fun z => (by cases z)⟩
  · obtain rfl := List.mem_singleton.mp hc
    exact ⟨_, ht, (fun _ z => (by cases z)), (fun _ _ _ z => (by cases z))⟩
  · exact .of (by rw [h t (by simp), ht])
  · obtain rfl := List.mem_singleton.mp hc
    exact ⟨nd, nL, nX⟩
  · exact .of (by rw [h t (by simp), ht])
  · cases z
    exact (sh2 (n := 0) (sh_str ha) (sh_str hb)).shaped (by decide)
/-- a new tuple that is no pair of texts -/
theorem ve_tup {t : Addr} {xs : List V} {ds : List PyData} (ht : H t = some (.tup xs)) (nd : t ≠ d) (nL : t ≠ L) (nX : t ≠ X) (hd : ∀ H', DpAll K H' xs ds) (n : NoEv (.tuple ds)) : VE K d L X H (.ref t) none true := by
  refine ⟨⟨[t], ⟨fun c hc => ?_, .inl ⟨_, n, fun H' h => .tup (.of (by rw [h t (by simp), ht])) (hd H')⟩⟩, fun c hc => ?_, t, _, rfl, fun H' h => .of (by rw [h t (by simp), ht]), fun _ => ⟨by simp, _, ht⟩⟩, fun e z => (by cases z), fun z => (by cases z)⟩
  · obtain rfl := List.mem_singleton.mp hc
    exact ⟨_, ht, (fun _ z => (by cases z)), (fun _ _ _ z => (by cases z))⟩
  · obtain rfl := List.mem_singleton.mp hc
    exact ⟨nd, nL, nX⟩
theorem ve_list {t : Addr} {xs : List V} {ds : List PyData} (ht : H t = some (.lst xs)) (nd : t ≠ d) (nL : t ≠ L) (nX : t ≠ X) (hd : ∀ H', DpAll K H' xs ds) (n : NoEv (.list ds)) : VE K d L X H (.ref t) none false := by
  refine ⟨⟨[t], ⟨fun c hc => ?_, .inl ⟨_, n, fun H' h => .lst (.of (by rw [h t (by simp), ht])) (hd H')⟩⟩, fun c hc => ?_, .inr (.inr (.inr (.inr (.inr ⟨t, xs, rfl, by simp, ht⟩))))⟩, fun e z => (by cases z), fun _ => rfl⟩
  · obtain rfl := List.mem_singleton.mp hc
    exact ⟨_, ht, (fun _ z => (by cases z)), (fun _ _ _ z => (by cases z))⟩
  · obtain rfl := List.mem_singleton.mp hc
    exact ⟨nd, nL, nX⟩
/-- a tuple with a list in it -/
theorem ve_tupl {t l : Addr} {a b : Str} (ht : H t = some (.tup [.str a, .ref l])) (hl : H l = some (.lst [.str b])) (nd : t ≠ d) (nL : t ≠ L) (nX : t ≠ X) (nd2 : l ≠ d) (nL2 : l ≠ L) (nX2 : l ≠ X) (n : NoEv (.tuple [.str a, .list [.str b]])) : VE K d L X H (.ref t) none true := by
  refine ⟨⟨[t, l], ⟨fun c hc => ?_, .inl ⟨_, n, fun H' h => .tup (.of (by rw [h t (by simp), ht])) (.cons (.str _) (.cons (.lst (.of (by rw [h l (by simp), hl])) (.cons (.str _) .nil)) .nil))⟩⟩, fun c hc => ?_, t, _, rfl, fun H' h => .of (by rw [h t (by simp), ht]), fun _ => ⟨by simp, _, ht⟩⟩, fun e z => (by cases z), fun z => (by cases z)⟩
  · rcases List.mem_cons.mp hc with rfl | hc
    · exact ⟨_, ht, (fun _ z => (by cases z)), (fun _ _ _ z => (by cases z))⟩
    · obtain rfl := List.mem_singleton.mp hc
      exact ⟨_, hl, (fun _ z => (by cases z)), (fun _ _ _ z => (by cases z))⟩
  · rcases List.mem_cons.mp hc with rfl | hc
    · exact ⟨nd, nL, nX⟩
    · obtain rfl := List.mem_singleton.mp hc
      exact ⟨nd2, nL2, nX2⟩
theorem ve_dict {t : Addr} {kvs : List (Key × V)} (ht : H t = some (.dK kvs)) (nd : t ≠ d) (nL : t ≠ L) (nX : t ≠ X) : VE K d L X H (.ref t) none false := by
  refine ⟨⟨[t], ⟨fun c hc => ?_, .inr ⟨t, kvs, rfl, by simp, ht⟩⟩, fun c hc => ?_, .inr (.inr (.inr (.inr (.inl ⟨t, kvs, rfl, by simp, ht⟩))))⟩, fun e z => (by cases z), fun _ => rfl⟩
  · obtain rfl := List.mem_singleton.mp hc
    exact ⟨_, ht, (fun _ z => (by cases z)), (fun _ _ _ z => (by cases z))⟩
  · obtain rfl := List.mem_singleton.mp hc
    exact ⟨nd, nL, nX⟩
/-- an event that stands in a list of events -/
theorem ve_part {t : Addr} {e : Str × Str} (ht : H t = some (.tup [.str e.1, .str e.2])) (nd : t ≠ d) (nL : t ≠ L) (nX : t ≠ X) (sh : SeqAt.shaped (partD e) = true) : VE K d L X H (.ref t) (some e) true := by
  refine ⟨⟨[t], ⟨fun c hc => ?_, fun H' h => ⟨t, rfl, .of (by rw [h t (by simp), ht])⟩⟩, fun c hc => ?_, t, _, rfl, fun H' h => .of (by rw [h t (by simp), ht]), fun z => (by cases z)⟩, fun e2 z => ?_, fun z => (by cases z)⟩
  · obtain rfl := List.mem_singleton.mp hc
    exact ⟨_, ht, (fun _ z => (by cases z)), (fun _ _ _ z => (by cases z))⟩
  · obtain rfl := List.mem_singleton.mp hc
    exact ⟨nd, nL, nX⟩
  · cases z
    exact sh
end
end Kf

set_option Elab.async false
set_option linter.all false
set_option maxRecDepth 100000
set_option maxHeartbeats 4000000
namespace Kf
open PySem PySem.Spec PyProof.Rows L2 LamX NdefX TL
theorem ve_partD {K : PySem.W.Frag} {d L C X : Addr} {H : Hp} {v : V} {e : Str × Str} {lX : List V} (D : Dr H d L C) (hX : H X = some (.lst lX)) (h : PartAt K H v e) (sh : SeqAt.shaped (partD e) = true) : VE K d L X H v (some e) true := by
  obtain ⟨_, _, _, _, _, D'⟩ := D
  obtain ⟨t, rfl, ht⟩ := h
  rcases ht with (ht | ⟨o, ht⟩) | ht
  · exact ve_part ht (ne_of ht D'.hd (by intro z; cases z)) (ne_of ht D'.hL (by intro z; cases z)) (ne_of ht hX (by intro z; cases z)) sh
  · have nd := ne_of ht D'.hd (by intro z; cases z)
    have nL := ne_of ht D'.hL (by intro z; cases z)
    have nX := ne_of ht hX (by intro z; cases z)
    refine ⟨⟨[t], ⟨fun c hc => ?_, fun H' h => ⟨t, rfl, .inl (.inr ⟨o, by rw [h t (by simp), ht]⟩)⟩⟩, fun c hc => ?_, t, _, rfl, fun H' h => .inl (.inr ⟨o, by rw [h t (by simp), ht]⟩), fun z => (by cases z)⟩, fun e2 z => ?_, fun z => (by cases z)⟩
    · obtain rfl := List.mem_singleton.mp hc
      exact ⟨_, ht, (fun _ z => (by cases z)), (fun _ _ _ z => (by cases z))⟩
    · obtain rfl := List.mem_singleton.mp hc
      exact ⟨nd, nL, nX⟩
    · cases z
      exact sh
  · refine ⟨⟨[], ⟨fun c hc => (by cases hc), fun H' h => ⟨t, rfl, .inr ht⟩⟩, fun c hc => (by cases hc), t, _, rfl, fun H' h => .inr ht, fun z => (by cases z)⟩, fun e2 z => ?_, fun z => (by cases z)⟩
    cases z
    exact sh
theorem MWt.kpD {K : PySem.W.Frag} {d L C : Addr} {H H' : Hp} {m ww g u : Addr} {ps : List (Str × Str)} {cs : List (Str × List Str)} {gs : List G} {tp : Str} (h : MWt K H m ww g u ps cs gs tp) (D : Dr H d L C) (k : Kp d L H H') (md : m ≠ d) (nL : ∀ kvs pa, H m = some (.dK kvs) → (valV kvs (.inr "parts") = some (.ref pa) ∨ valV kvs (.inr "causes") = some (.ref pa) ∨ valV kvs (.inr "gates") = some (.ref pa)) → pa ≠ L) : MWt K H' m ww g u ps cs gs tp := by
  obtain ⟨kvs, pa, ca, ga, xs, zs, ys, hm, v1, v2, v3, v4, h1, e1, h2, e2, h3, e3, n⟩ := h.ex
  have mL : m ≠ L := by
    obtain ⟨_, _, _, _, _, D'⟩ := D
    exact ne_of hm D'.hL (by intro z; cases z)
  have kt := k.kt (K := K) D
  exact ⟨kvs, pa, ca, ga, xs, zs, ys, k _ _ hm md mL, v1, v2, v3, v4, k.lst D (nL kvs pa hm (.inl v1)) h1, e1.imp fun _ _ r => PartAt.kt kt r, k.lst D (nL kvs ca hm (.inr (.inl v2))) h2, e2.imp fun _ _ r => CauseAt.kt kt r, k.lst D (nL kvs ga hm (.inr (.inr v3))) h3, e3.imp fun _ _ r => GateAt.kt kt r, n⟩
theorem shl1 {a : Str} (h : StrOk a) : ShOk 4 (.tuple [.str a]) := (sh_tup (n := 0) fun d hd => by obtain rfl := List.mem_singleton.mp hd; exact sh_str h).up (by decide)
theorem shl3 {a b c : Str} (h1 : StrOk a) (h2 : StrOk b) (h3 : StrOk c) : ShOk 4 (.tuple [.str a, .str b, .str c]) := (sh_tup (n := 0) fun d hd => by
  simp only [List.mem_cons, List.not_mem_nil, or_false] at hd
  rcases hd with rfl | rfl | rfl
  · exact sh_str h1
  · exact sh_str h2
  · exact sh_str h3).up (by decide)
theorem shL {a b : Str} (h1 : StrOk a) (h2 : StrOk b) : ShOk 4 (.list [.str a, .str b]) := ⟨(sh2 (sh_str h1) (sh_str h2)).can, ((sh2 (n := 0) (sh_str h1) (sh_str h2)).up (by decide : 1 ≤ 4)).dep⟩
theorem shtl {a b : Str} (h1 : StrOk a) (h2 : StrOk b) : ShOk 4 (.tuple [.str a, .list [.str b]]) := by
  have z : ShOk 1 (.tuple [.str b]) := sh_tup (n := 0) fun d hd => by obtain rfl := List.mem_singleton.mp hd; exact sh_str h2
  have hl : ShOk 1 (.list [.str b]) := ⟨z.can, z.dep⟩
  exact (sh2 (n := 1) ((sh_str h1).up (by decide)) hl).up (by decide)
theorem shn {a : Str} (h1 : StrOk a) : ShOk 4 (.tuple [.str a, .none]) := (sh2 (n := 0) (sh_str h1) at_non.sh).up (by decide)
section
variable {P : Program} {w : World} {K : PySem.W.Frag} {mg : Str → Option Value} {base : Heap}
def spAnyEv (K : PySem.W.Frag) : Sp := fun vs H Q _ => ∃ d L C X lX m ww ps cs gs tp g u s c gone us sn, vs = [.ref d, .ref m, .ref ww] ∧ H X = some (.lst lX) ∧ X ≠ L ∧ Dr H d L C ∧ MWt K H m ww g u ps cs gs tp ∧ WAt H ww g u s c gone us sn ∧ ww ≠ d ∧ u ≠ d ∧ s ≠ d ∧ g ≠ L ∧ m ≠ d ∧ (∀ kvs pa, H m = some (.dK kvs) → (valV kvs (.inr "parts") = some (.ref pa) ∨ valV kvs (.inr "causes") = some (.ref pa) ∨ valV kvs (.inr "gates") = some (.ref pa)) → pa ≠ L) ∧ PlantOk ps gs cs tp ∧ gone.length ≤ 100 ∧ us.length ≤ 100 ∧ (∀ e ∈ eventsOf ps gone us, StrOk e.1 ∧ StrOk e.2) ∧
  ∀ H' v o t, Dr H' d L C → Kp d L H H' → VE K d L X H' v o t → Q v H'
theorem ok_any_event {f : Addr} {fd : FuncData} (F : L2.Fun K "_law_any_event" "_law_any_event" s__law_any_event f fd) (T : Nm mg) (C__law_take : Cal P w K mg base 1 "_law_take" ["draw", "size"] spTake) (C__law_pick : Cal P w K mg base 2 "_law_pick" ["draw", "some"] (spPick2 K)) (C__law_can : Cal P w K mg base 1 "_law_can" ["m", "w"] (spCan K)) : FnOk P w K mg base CX0 3 f fd ["draw", "m", "w"] (spAnyEv K) := by
  refine F.ok sc__law_any_event (fun vs H Q E h => ?_) (fun cdv A outer s H vs Q E hr h => ?_)
  · obtain ⟨d, L, C, X, lX, m, ww, ps, cs, gs, tp, g, u, s, c, gone, us, sn, rfl, _⟩ := h
    rfl
  · obtain ⟨d, L, C, X, lX, m, ww, ps, cs, gs, tp, g, u, sA, c, gone, us, sn, rfl, hX, XL, D, hM, W, wd, ud, sd, gL, md, mL, ok, gl, ul, evs, q⟩ := h
    have hu := hu_of hr
    have hu64 := hr.units
    refine ⟨_, (pss_cons (ps_par (i := 3) (j := 4) (by rfl) sc__law_any_event.nd rfl rfl (by decide) rfl rfl (pa_cons (pe_ix (ix_sqK (K := K) rfl) (pe_cal C__law_pick (by decide) hr (by rfl) (pa_cons (pv 0) (pa_cons (pe_dget hu (pv 1) pe_str (fun _ _ => rfl)) pa_nil))) pe_int (fun _ _ => rfl)) (pa_cons (pe_ix (ix_sqK (K := K) rfl) (pe_cal C__law_pick (by decide) hr (by rfl) (pa_cons (pv 0) (pa_cons (pe_dget hu (pv 1) pe_str (fun _ _ => rfl)) pa_nil))) pe_int (fun _ _ => rfl)) pa_nil)) (by rfl))
 (pss_cons (ps_set (i := 5) sc__law_any_event.nd rfl (.inl rfl) (pe_lst (pa_cons pe_non (pa_cons pe_bl (pa_cons pe_int (pa_cons pe_str (pa_cons pe_str (pa_cons (pe_tup pa_nil) (pa_cons (pe_tup (pa_cons pe_str pa_nil)) (pa_cons (pe_tup (pa_cons pe_str (pa_cons (pv 3) (pa_cons (pv 3) pa_nil)))) (pa_cons (pe_lst (pa_cons pe_str (pa_cons (pv 3) pa_nil))) (pa_cons (pe_tup (pa_cons pe_str (pa_cons (pv 3) pa_nil))) (pa_cons (pe_tup (pa_cons pe_str pa_nil)) pa_nil)))))))))))))
 (pss_cons (ps_set (i := 5) sc__law_any_event.nd rfl (.inl rfl) (pe_op op_cat (pv 5) (pe_lst (pa_cons (pe_tup (pa_cons pe_str (pa_cons (pv 4) pa_nil))) (pa_cons (pe_tup (pa_cons pe_str (pa_cons (pv 4) pa_nil))) (pa_cons (pe_tup (pa_cons (pv 3) (pa_cons pe_str pa_nil))) (pa_cons (pe_tup (pa_cons pe_str (pa_cons (pe_lst (pa_cons (pv 3) pa_nil)) pa_nil))) (pa_cons (pe_tup (pa_cons pe_str (pa_cons pe_non pa_nil))) (pa_cons (pe_disp (pps_cons pe_str (pv 3) pps_nil) (by rfl) (by rfl) (fun z => by cases z) (by decide)) pa_nil)))))))))
 (pss_cons (ps_set (i := 5) sc__law_any_event.nd rfl (.inl rfl) (pe_op op_cat (pv 5) (pe_op op_rep (pe_lst (pa_cons (pe_tup (pa_cons pe_str (pa_cons (pv 3) pa_nil))) (pa_cons (pe_tup (pa_cons pe_str (pa_cons (pv 3) pa_nil))) pa_nil))) pe_int)))
 (pss_cons (ps_set (i := 6) sc__law_any_event.nd rfl (.inl rfl) (pe_cal C__law_can (by decide) hr (by rfl) (pa_cons (pv 1) (pa_cons (pv 2) pa_nil))))
 (pss_one (ps_ret (pe_ifExp (PW.pt (pw_and (pt_cmpR (op_neD hu64) (pv 6) (pe_lst pa_nil) (nomark _)) (pw_and1 (pt_cmpR op_eq (pe_cal C__law_take (by decide) hr (by rfl) (pa_cons (pv 0) (pa_cons pe_int pa_nil))) pe_int (nomark _))))) (pe_cal C__law_pick (by decide) hr (by rfl) (pa_cons (pv 0) (pa_cons (pv 6) pa_nil))) (pe_cal C__law_pick (by decide) hr (by rfl) (pa_cons (pv 0) (pa_cons (pv 5) pa_nil))))))))))), ?_⟩
    obtain ⟨kvs, pa, ca, ga, xs, zs, ys, hm, v1, v2, v3, v4, h1, e1, h2, e2, h3, e3, q1, q2, q3, q4, q5⟩ := hM.ex
    have paL := mL kvs pa hm (.inl v1)
    have gaL := mL kvs ga hm (.inr (.inr v3))
    have lp1 := ok.parts.lo
    have lp8 := ok.parts.hi
    have lg1 := ok.gates.lo
    have lg8 := ok.gates.hi
    have lxs := e1.1
    have lys := e3.1
    refine ⟨.ref d, rfl, .ref m, rfl, m, .ref pa, rfl, gK hm v1, d, L, C, .ref pa, rfl, D, .inl ⟨pa, xs, rfl, paL, .inl (.of h1), by omega, by omega, fun H1 x Da k1 hx => ?_⟩⟩
    obtain ⟨i, hi⟩ := List.mem_iff_getElem?.mp hx
    obtain ⟨⟨pn, pk⟩, hpr, t, rfl, ht⟩ := e1.2 i x hi
    have kt1 := k1.kt (K := K) D
    have mL0 : m ≠ L := by
      obtain ⟨_, _, _, _, _, D'⟩ := D
      exact ne_of hm D'.hL (by intro z; cases z)
    refine ⟨t, _, 0, .str pn, rfl, rfl, .inr (kt1 _ _ ht), at0, .ref d, rfl, .ref m, rfl, m, .ref ga, rfl, gK (k1 _ _ hm md mL0) v3, d, L, C, .ref ga, rfl, Da, .inl ⟨ga, ys, rfl, gaL, .inl (.of (k1.lst D gaL h3)), by omega, by omega, fun G0 y D0 k2 hy => ?_⟩⟩
    obtain ⟨j, hj⟩ := List.mem_iff_getElem?.mp hy
    obtain ⟨gt, hgt, r⟩ := e3.2 j y hj
    have k02 := k1.trans k2
    have hX0 := k02.lst D XL hX
    obtain ⟨t', rest, rfl, ht', _⟩ := (GateAt.kt (k02.kt (K := K) D) r).cut
    refine ⟨t', _, 0, .str gt.name, rfl, rfl, .inr ht', at0, _, _, rfl, ?_⟩
    dsimp only [tSeq]
    have okp : StrOk pn := (ok.parts.each _ (List.mem_of_getElem? hpr)).name.str
    have okg : StrOk gt.name := GatesOk.names ok.gates _ (List.mem_map.mpr ⟨gt, List.mem_of_getElem? hgt, rfl⟩)
    generalize gt.name = gn at okg ht' ⊢
    refine ⟨by show 0 ≤ sizeLine; decide, fun t1 n_t1 => ?_⟩
    have s1 : Same G0 (upd G0 t1 (.tup [])) := Same.new n_t1
    have a_t1 : (upd G0 t1 (.tup [])) t1 = some (.tup []) := upd_same
    have N_t1 := D0.neL n_t1
    have X_t1 : t1 ≠ X := (ne_of_none hX0 n_t1).symm
    generalize upd G0 t1 (.tup []) = G1 at s1 a_t1 ⊢
    have D1 := D0.same s1
    have hX1 := s1 _ _ hX0
    refine ⟨by show 1 ≤ sizeLine; decide, fun t2 n_t2 => ?_⟩
    have s2 : Same G1 (upd G1 t2 (.tup [.str "fail"])) := Same.new n_t2
    have a_t2 : (upd G1 t2 (.tup [.str "fail"])) t2 = some (.tup [.str "fail"]) := upd_same
    have N_t2 := D1.neL n_t2
    have X_t2 : t2 ≠ X := (ne_of_none hX1 n_t2).symm
    generalize upd G1 t2 (.tup [.str "fail"]) = G2 at s2 a_t2 ⊢
    have D2 := D1.same s2
    have hX2 := s2 _ _ hX1
    refine ⟨.str pn, rfl, .str pn, rfl, by show 3 ≤ sizeLine; decide, fun t3 n_t3 => ?_⟩
    have s3 : Same G2 (upd G2 t3 (.tup [.str "fail", .str pn, .str pn])) := Same.new n_t3
    have a_t3 : (upd G2 t3 (.tup [.str "fail", .str pn, .str pn])) t3 = some (.tup [.str "fail", .str pn, .str pn]) := upd_same
    have N_t3 := D2.neL n_t3
    have X_t3 : t3 ≠ X := (ne_of_none hX2 n_t3).symm
    generalize upd G2 t3 (.tup [.str "fail", .str pn, .str pn]) = G3 at s3 a_t3 ⊢
    have D3 := D2.same s3
    have hX3 := s3 _ _ hX2
    refine ⟨.str pn, rfl, by show 2 ≤ sizeLine; decide, fun l4 n_l4 => ?_⟩
    have s4 : Same G3 (upd G3 l4 (.lst [.str "fail", .str pn])) := Same.new n_l4
    have a_l4 : (upd G3 l4 (.lst [.str "fail", .str pn])) l4 = some (.lst [.str "fail", .str pn]) := upd_same
    have N_l4 := D3.neL n_l4
    have X_l4 : l4 ≠ X := (ne_of_none hX3 n_l4).symm
    generalize upd G3 l4 (.lst [.str "fail", .str pn]) = G4 at s4 a_l4 ⊢
    have D4 := D3.same s4
    have hX4 := s4 _ _ hX3
    refine ⟨.str pn, rfl, by show 2 ≤ sizeLine; decide, fun t5 n_t5 => ?_⟩
    have s5 : Same G4 (upd G4 t5 (.tup [.str "Fail", .str pn])) := Same.new n_t5
    have a_t5 : (upd G4 t5 (.tup [.str "Fail", .str pn])) t5 = some (.tup [.str "Fail", .str pn]) := upd_same
    have N_t5 := D4.neL n_t5
    have X_t5 : t5 ≠ X := (ne_of_none hX4 n_t5).symm
    generalize upd G4 t5 (.tup [.str "Fail", .str pn]) = G5 at s5 a_t5 ⊢
    have D5 := D4.same s5
    have hX5 := s5 _ _ hX4
    refine ⟨by show 1 ≤ sizeLine; decide, fun t6 n_t6 => ?_⟩
    have s6 : Same G5 (upd G5 t6 (.tup [.str "mend"])) := Same.new n_t6
    have a_t6 : (upd G5 t6 (.tup [.str "mend"])) t6 = some (.tup [.str "mend"]) := upd_same
    have N_t6 := D5.neL n_t6
    have X_t6 : t6 ≠ X := (ne_of_none hX5 n_t6).symm
    generalize upd G5 t6 (.tup [.str "mend"]) = G6 at s6 a_t6 ⊢
    have D6 := D5.same s6
    have hX6 := s6 _ _ hX5
    refine ⟨by show 11 ≤ sizeLine; decide, fun A1 n_A1 => ?_⟩
    have s7 : Same G6 (upd G6 A1 (.lst [.non, .bl true, .int 0, .str "", .str "fail", .ref t1, .ref t2, .ref t3, .ref l4, .ref t5, .ref t6])) := Same.new n_A1
    have a_A1 : (upd G6 A1 (.lst [.non, .bl true, .int 0, .str "", .str "fail", .ref t1, .ref t2, .ref t3, .ref l4, .ref t5, .ref t6])) A1 = some (.lst [.non, .bl true, .int 0, .str "", .str "fail", .ref t1, .ref t2, .ref t3, .ref l4, .ref t5, .ref t6]) := upd_same
    have N_A1 := D6.neL n_A1
    have X_A1 : A1 ≠ X := (ne_of_none hX6 n_A1).symm
    generalize upd G6 A1 (.lst [.non, .bl true, .int 0, .str "", .str "fail", .ref t1, .ref t2, .ref t3, .ref l4, .ref t5, .ref t6]) = G7 at s7 a_A1 ⊢
    have D7 := D6.same s7
    have hX7 := s7 _ _ hX6
    refine ⟨.ref A1, rfl, .str gn, rfl, by show 2 ≤ sizeLine; decide, fun t7 n_t7 => ?_⟩
    have s8 : Same G7 (upd G7 t7 (.tup [.str "fail", .str gn])) := Same.new n_t7
    have a_t7 : (upd G7 t7 (.tup [.str "fail", .str gn])) t7 = some (.tup [.str "fail", .str gn]) := upd_same
    have N_t7 := D7.neL n_t7
    have X_t7 : t7 ≠ X := (ne_of_none hX7 n_t7).symm
    generalize upd G7 t7 (.tup [.str "fail", .str gn]) = G8 at s8 a_t7 ⊢
    have D8 := D7.same s8
    have hX8 := s8 _ _ hX7
    refine ⟨.str gn, rfl, by show 2 ≤ sizeLine; decide, fun t8 n_t8 => ?_⟩
    have s9 : Same G8 (upd G8 t8 (.tup [.str "mend", .str gn])) := Same.new n_t8
    have a_t8 : (upd G8 t8 (.tup [.str "mend", .str gn])) t8 = some (.tup [.str "mend", .str gn]) := upd_same
    have N_t8 := D8.neL n_t8
    have X_t8 : t8 ≠ X := (ne_of_none hX8 n_t8).symm
    generalize upd G8 t8 (.tup [.str "mend", .str gn]) = G9 at s9 a_t8 ⊢
    have D9 := D8.same s9
    have hX9 := s9 _ _ hX8
    refine ⟨.str pn, rfl, by show 2 ≤ sizeLine; decide, fun t9 n_t9 => ?_⟩
    have s10 : Same G9 (upd G9 t9 (.tup [.str pn, .str "fail"])) := Same.new n_t9
    have a_t9 : (upd G9 t9 (.tup [.str pn, .str "fail"])) t9 = some (.tup [.str pn, .str "fail"]) := upd_same
    have N_t9 := D9.neL n_t9
    have X_t9 : t9 ≠ X := (ne_of_none hX9 n_t9).symm
    generalize upd G9 t9 (.tup [.str pn, .str "fail"]) = G10 at s10 a_t9 ⊢
    have D10 := D9.same s10
    have hX10 := s10 _ _ hX9
    refine ⟨.str pn, rfl, by show 1 ≤ sizeLine; decide, fun l10 n_l10 => ?_⟩
    have s11 : Same G10 (upd G10 l10 (.lst [.str pn])) := Same.new n_l10
    have a_l10 : (upd G10 l10 (.lst [.str pn])) l10 = some (.lst [.str pn]) := upd_same
    have N_l10 := D10.neL n_l10
    have X_l10 : l10 ≠ X := (ne_of_none hX10 n_l10).symm
    generalize upd G10 l10 (.lst [.str pn]) = G11 at s11 a_l10 ⊢
    have D11 := D10.same s11
    have hX11 := s11 _ _ hX10
    refine ⟨by show 2 ≤ sizeLine; decide, fun t10 n_t10 => ?_⟩
    have s12 : Same G11 (upd G11 t10 (.tup [.str "fail", .ref l10])) := Same.new n_t10
    have a_t10 : (upd G11 t10 (.tup [.str "fail", .ref l10])) t10 = some (.tup [.str "fail", .ref l10]) := upd_same
    have N_t10 := D11.neL n_t10
    have X_t10 : t10 ≠ X := (ne_of_none hX11 n_t10).symm
    generalize upd G11 t10 (.tup [.str "fail", .ref l10]) = G12 at s12 a_t10 ⊢
    have D12 := D11.same s12
    have hX12 := s12 _ _ hX11
    refine ⟨by show 2 ≤ sizeLine; decide, fun t11 n_t11 => ?_⟩
    have s13 : Same G12 (upd G12 t11 (.tup [.str "fail", .non])) := Same.new n_t11
    have a_t11 : (upd G12 t11 (.tup [.str "fail", .non])) t11 = some (.tup [.str "fail", .non]) := upd_same
    have N_t11 := D12.neL n_t11
    have X_t11 : t11 ≠ X := (ne_of_none hX12 n_t11).symm
    generalize upd G12 t11 (.tup [.str "fail", .non]) = G13 at s13 a_t11 ⊢
    have D13 := D12.same s13
    have hX13 := s13 _ _ hX12
    refine fun dd n_dd => ⟨.str pn, rfl, upd_same, [(.inr "fail", .str pn)], rfl, by show 1 ≤ 15; decide, ?_⟩
    have em : mergeK [] [((.inr "fail" : Key), V.str pn)] = [((.inr "fail" : Key), V.str pn)] := by with_unfolding_all rfl
    rw [em]
    have s14 : Same G13 (upd (upd G13 dd (.dK [])) dd (.dK [(.inr "fail", .str pn)])) := Same.at (Same.new n_dd) n_dd
    have a_dd : (upd (upd G13 dd (.dK [])) dd (.dK [(.inr "fail", .str pn)])) dd = some (.dK [(.inr "fail", .str pn)]) := upd_same
    have N_dd := D13.neL n_dd
    have X_dd : dd ≠ X := (ne_of_none hX13 n_dd).symm
    generalize upd (upd G13 dd (.dK [])) dd (.dK [(.inr "fail", .str pn)]) = G14 at s14 a_dd ⊢
    have D14 := D13.same s14
    have hX14 := s14 _ _ hX13
    refine ⟨by show 6 ≤ sizeLine; decide, fun A2 n_A2 => ?_⟩
    have s15 : Same G14 (upd G14 A2 (.lst [.ref t7, .ref t8, .ref t9, .ref t10, .ref t11, .ref dd])) := Same.new n_A2
    have a_A2 : (upd G14 A2 (.lst [.ref t7, .ref t8, .ref t9, .ref t10, .ref t11, .ref dd])) A2 = some (.lst [.ref t7, .ref t8, .ref t9, .ref t10, .ref t11, .ref dd]) := upd_same
    have N_A2 := D14.neL n_A2
    have X_A2 : A2 ≠ X := (ne_of_none hX14 n_A2).symm
    generalize upd G14 A2 (.lst [.ref t7, .ref t8, .ref t9, .ref t10, .ref t11, .ref dd]) = G15 at s15 a_A2 ⊢
    have D15 := D14.same s15
    have hX15 := s15 _ _ hX14
    refine ⟨A1, A2, _, _, rfl, rfl, ((s8.trans (s9.trans (s10.trans (s11.trans (s12.trans (s13.trans (s14.trans s15))))))) _ _ a_A1), a_A2, by rw [sizeLine_eq]; simp, fun A3 n_A3 => ?_⟩
    have s16 : Same G15 (upd G15 A3 (.lst ([.non, .bl true, .int 0, .str "", .str "fail", .ref t1, .ref t2, .ref t3, .ref l4, .ref t5, .ref t6] ++ [.ref t7, .ref t8, .ref t9, .ref t10, .ref t11, .ref dd]))) := Same.new n_A3
    have a_A3 : (upd G15 A3 (.lst ([.non, .bl true, .int 0, .str "", .str "fail", .ref t1, .ref t2, .ref t3, .ref l4, .ref t5, .ref t6] ++ [.ref t7, .ref t8, .ref t9, .ref t10, .ref t11, .ref dd]))) A3 = some (.lst ([.non, .bl true, .int 0, .str "", .str "fail", .ref t1, .ref t2, .ref t3, .ref l4, .ref t5, .ref t6] ++ [.ref t7, .ref t8, .ref t9, .ref t10, .ref t11, .ref dd])) := upd_same
    have N_A3 := D15.neL n_A3
    have X_A3 : A3 ≠ X := (ne_of_none hX15 n_A3).symm
    generalize upd G15 A3 (.lst ([.non, .bl true, .int 0, .str "", .str "fail", .ref t1, .ref t2, .ref t3, .ref l4, .ref t5, .ref t6] ++ [.ref t7, .ref t8, .ref t9, .ref t10, .ref t11, .ref dd])) = G16 at s16 a_A3 ⊢
    have D16 := D15.same s16
    have hX16 := s16 _ _ hX15
    refine ⟨.ref A3, rfl, .str pn, rfl, by show 2 ≤ sizeLine; decide, fun t12 n_t12 => ?_⟩
    have s17 : Same G16 (upd G16 t12 (.tup [.str "fail", .str pn])) := Same.new n_t12
    have a_t12 : (upd G16 t12 (.tup [.str "fail", .str pn])) t12 = some (.tup [.str "fail", .str pn]) := upd_same
    have N_t12 := D16.neL n_t12
    have X_t12 : t12 ≠ X := (ne_of_none hX16 n_t12).symm
    generalize upd G16 t12 (.tup [.str "fail", .str pn]) = G17 at s17 a_t12 ⊢
    have D17 := D16.same s17
    have hX17 := s17 _ _ hX16
    refine ⟨.str pn, rfl, by show 2 ≤ sizeLine; decide, fun t13 n_t13 => ?_⟩
    have s18 : Same G17 (upd G17 t13 (.tup [.str "mend", .str pn])) := Same.new n_t13
    have a_t13 : (upd G17 t13 (.tup [.str "mend", .str pn])) t13 = some (.tup [.str "mend", .str pn]) := upd_same
    have N_t13 := D17.neL n_t13
    have X_t13 : t13 ≠ X := (ne_of_none hX17 n_t13).symm
    generalize upd G17 t13 (.tup [.str "mend", .str pn]) = G18 at s18 a_t13 ⊢
    have D18 := D17.same s18
    have hX18 := s18 _ _ hX17
    refine ⟨by show 2 ≤ sizeLine; decide, fun A4 n_A4 => ?_⟩
    have s19 : Same G18 (upd G18 A4 (.lst [.ref t12, .ref t13])) := Same.new n_A4
    have a_A4 : (upd G18 A4 (.lst [.ref t12, .ref t13])) A4 = some (.lst [.ref t12, .ref t13]) := upd_same
    have N_A4 := D18.neL n_A4
    have X_A4 : A4 ≠ X := (ne_of_none hX18 n_A4).symm
    generalize upd G18 A4 (.lst [.ref t12, .ref t13]) = G19 at s19 a_A4 ⊢
    have D19 := D18.same s19
    have hX19 := s19 _ _ hX18
    refine ⟨A4, 3, _, rfl, rfl, a_A4, by decide, by decide, by show 2 * 3 ≤ sizeLine; decide, fun A5 n_A5 => ?_⟩
    have s20 : Same G19 (upd G19 A5 (.lst (List.replicate (3 : Int).toNat [V.ref t12, .ref t13]).flatten)) := Same.new n_A5
    have a_A5 : (upd G19 A5 (.lst (List.replicate (3 : Int).toNat [V.ref t12, .ref t13]).flatten)) A5 = some (.lst (List.replicate (3 : Int).toNat [V.ref t12, .ref t13]).flatten) := upd_same
    have N_A5 := D19.neL n_A5
    have X_A5 : A5 ≠ X := (ne_of_none hX19 n_A5).symm
    generalize upd G19 A5 (.lst (List.replicate (3 : Int).toNat [V.ref t12, .ref t13]).flatten) = G20 at s20 a_A5 ⊢
    have D20 := D19.same s20
    have hX20 := s20 _ _ hX19
    refine ⟨A3, A5, _, _, rfl, rfl, ((s17.trans (s18.trans (s19.trans s20))) _ _ a_A3), a_A5, by rw [sizeLine_eq]; simp, fun A6 n_A6 => ?_⟩
    have s21 : Same G20 (upd G20 A6 (.lst ([.non, .bl true, .int 0, .str "", .str "fail", .ref t1, .ref t2, .ref t3, .ref l4, .ref t5, .ref t6] ++ [.ref t7, .ref t8, .ref t9, .ref t10, .ref t11, .ref dd] ++ (List.replicate (3 : Int).toNat [V.ref t12, .ref t13]).flatten))) := Same.new n_A6
    have a_A6 : (upd G20 A6 (.lst ([.non, .bl true, .int 0, .str "", .str "fail", .ref t1, .ref t2, .ref t3, .ref l4, .ref t5, .ref t6] ++ [.ref t7, .ref t8, .ref t9, .ref t10, .ref t11, .ref dd] ++ (List.replicate (3 : Int).toNat [V.ref t12, .ref t13]).flatten))) A6 = some (.lst ([.non, .bl true, .int 0, .str "", .str "fail", .ref t1, .ref t2, .ref t3, .ref l4, .ref t5, .ref t6] ++ [.ref t7, .ref t8, .ref t9, .ref t10, .ref t11, .ref dd] ++ (List.replicate (3 : Int).toNat [V.ref t12, .ref t13]).flatten)) := upd_same
    have N_A6 := D20.neL n_A6
    have X_A6 : A6 ≠ X := (ne_of_none hX20 n_A6).symm
    generalize upd G20 A6 (.lst ([.non, .bl true, .int 0, .str "", .str "fail", .ref t1, .ref t2, .ref t3, .ref l4, .ref t5, .ref t6] ++ [.ref t7, .ref t8, .ref t9, .ref t10, .ref t11, .ref dd] ++ (List.replicate (3 : Int).toNat [V.ref t12, .ref t13]).flatten)) = G21 at s21 a_A6 ⊢
    have D21 := D20.same s21
    have hX21 := s21 _ _ hX20
    have okw : StrOk "fail" := by decide +kernel
    have okm : StrOk "mend" := by decide +kernel
    have okF : StrOk "Fail" := by decide +kernel
    have oke : StrOk "" := by decide +kernel
    have eqf : ∀ {xs : List PyData}, (∀ a b : Str, PyData.eqvAll [.str a, .str b] xs = false) → ∀ a b : Str, PyData.eqv (.tuple [.str a, .str b]) (.tuple xs) = false := fun h a b => by rw [PyData.eqv]; exact h a b
    have VA : ∀ v ∈ [.non, .bl true, .int 0, .str "", .str "fail", .ref t1, .ref t2, .ref t3, .ref l4, .ref t5, .ref t6] ++ [.ref t7, .ref t8, .ref t9, .ref t10, .ref t11, .ref dd] ++ (List.replicate (3 : Int).toNat [V.ref t12, .ref t13]).flatten, ∃ o tp, VE K d L X G21 v o tp := by
      have flat : ∀ {v : V} {x : PyData}, Atom v x → ShOk 4 x → (∀ a b : Str, PyData.eqv (.tuple [.str a, .str b]) x = false) → (v = .non ∨ (∃ b, v = .bl b) ∨ (∃ i, v = .int i) ∨ ∃ z, v = .str z) → ∃ o tp, VE K d L X G21 v o tp := fun a s n t => ⟨_, _, ve_flat a (noev_of s n) t⟩
      have v_t1 : ∃ o tp, VE K d L X G21 (.ref t1) o tp := ⟨_, _, (ve_tup (ds := []) a_t1 N_t1.2.2 N_t1.1 X_t1 (fun _ => .nil) (noev_of ((sh_tup (n := 0) (fun d hd => by cases hd)).up (by decide)) (eqf fun a b => by simp [PyData.eqvAll, PyData.eqv]))).same (s2.trans (s3.trans (s4.trans (s5.trans (s6.trans (s7.trans (s8.trans (s9.trans (s10.trans (s11.trans (s12.trans (s13.trans (s14.trans (s15.trans (s16.trans (s17.trans (s18.trans (s19.trans (s20.trans s21)))))))))))))))))))⟩
      have v_t2 : ∃ o tp, VE K d L X G21 (.ref t2) o tp := ⟨_, _, (ve_tup (ds := [.str "fail"]) a_t2 N_t2.2.2 N_t2.1 X_t2 (fun _ => .cons (.str _) .nil) (noev_of (shl1 okw) (eqf fun a b => by simp [PyData.eqvAll, PyData.eqv]))).same (s3.trans (s4.trans (s5.trans (s6.trans (s7.trans (s8.trans (s9.trans (s10.trans (s11.trans (s12.trans (s13.trans (s14.trans (s15.trans (s16.trans (s17.trans (s18.trans (s19.trans (s20.trans s21))))))))))))))))))⟩
      have v_t3 : ∃ o tp, VE K d L X G21 (.ref t3) o tp := ⟨_, _, (ve_tup (ds := [.str "fail", .str pn, .str pn]) a_t3 N_t3.2.2 N_t3.1 X_t3 (fun _ => .cons (.str _) (.cons (.str _) (.cons (.str _) .nil))) (noev_of (shl3 okw okp okp) (eqf fun a b => by simp [PyData.eqvAll, PyData.eqv]))).same (s4.trans (s5.trans (s6.trans (s7.trans (s8.trans (s9.trans (s10.trans (s11.trans (s12.trans (s13.trans (s14.trans (s15.trans (s16.trans (s17.trans (s18.trans (s19.trans (s20.trans s21)))))))))))))))))⟩
      have v_l4 : ∃ o tp, VE K d L X G21 (.ref l4) o tp := ⟨_, _, (ve_list (ds := [.str "fail", .str pn]) a_l4 N_l4.2.2 N_l4.1 X_l4 (fun _ => .cons (.str _) (.cons (.str _) .nil)) (noev_of (shL okw okp) fun a b => by simp [PyData.eqv])).same (s5.trans (s6.trans (s7.trans (s8.trans (s9.trans (s10.trans (s11.trans (s12.trans (s13.trans (s14.trans (s15.trans (s16.trans (s17.trans (s18.trans (s19.trans (s20.trans s21))))))))))))))))⟩
      have v_t5 : ∃ o tp, VE K d L X G21 (.ref t5) o tp := ⟨_, _, (ve_pair a_t5 N_t5.2.2 N_t5.1 X_t5 okF okp).same (s6.trans (s7.trans (s8.trans (s9.trans (s10.trans (s11.trans (s12.trans (s13.trans (s14.trans (s15.trans (s16.trans (s17.trans (s18.trans (s19.trans (s20.trans s21)))))))))))))))⟩
      have v_t6 : ∃ o tp, VE K d L X G21 (.ref t6) o tp := ⟨_, _, (ve_tup (ds := [.str "mend"]) a_t6 N_t6.2.2 N_t6.1 X_t6 (fun _ => .cons (.str _) .nil) (noev_of (shl1 okm) (eqf fun a b => by simp [PyData.eqvAll, PyData.eqv]))).same (s7.trans (s8.trans (s9.trans (s10.trans (s11.trans (s12.trans (s13.trans (s14.trans (s15.trans (s16.trans (s17.trans (s18.trans (s19.trans (s20.trans s21))))))))))))))⟩
      have v_t7 : ∃ o tp, VE K d L X G21 (.ref t7) o tp := ⟨_, _, (ve_pair a_t7 N_t7.2.2 N_t7.1 X_t7 okw okg).same (s9.trans (s10.trans (s11.trans (s12.trans (s13.trans (s14.trans (s15.trans (s16.trans (s17.trans (s18.trans (s19.trans (s20.trans s21))))))))))))⟩
      have v_t8 : ∃ o tp, VE K d L X G21 (.ref t8) o tp := ⟨_, _, (ve_pair a_t8 N_t8.2.2 N_t8.1 X_t8 okm okg).same (s10.trans (s11.trans (s12.trans (s13.trans (s14.trans (s15.trans (s16.trans (s17.trans (s18.trans (s19.trans (s20.trans s21)))))))))))⟩
      have v_t9 : ∃ o tp, VE K d L X G21 (.ref t9) o tp := ⟨_, _, (ve_pair a_t9 N_t9.2.2 N_t9.1 X_t9 okp okw).same (s11.trans (s12.trans (s13.trans (s14.trans (s15.trans (s16.trans (s17.trans (s18.trans (s19.trans (s20.trans s21))))))))))⟩
      have v_t10 : ∃ o tp, VE K d L X G21 (.ref t10) o tp := ⟨_, _, (ve_tupl a_t10 (s12 _ _ a_l10) N_t10.2.2 N_t10.1 X_t10 N_l10.2.2 N_l10.1 X_l10 (noev_of (shtl okw okp) (eqf fun a b => by simp [PyData.eqvAll, PyData.eqv]))).same (s13.trans (s14.trans (s15.trans (s16.trans (s17.trans (s18.trans (s19.trans (s20.trans s21))))))))⟩
      have v_t11 : ∃ o tp, VE K d L X G21 (.ref t11) o tp := ⟨_, _, (ve_tup (ds := [.str "fail", .none]) a_t11 N_t11.2.2 N_t11.1 X_t11 (fun _ => .cons (.str _) (.cons .non .nil)) (noev_of (shn okw) (eqf fun a b => by simp [PyData.eqvAll, PyData.eqv]))).same (s14.trans (s15.trans (s16.trans (s17.trans (s18.trans (s19.trans (s20.trans s21)))))))⟩
      have v_dd : ∃ o tp, VE K d L X G21 (.ref dd) o tp := ⟨_, _, (ve_dict a_dd N_dd.2.2 N_dd.1 X_dd).same (s15.trans (s16.trans (s17.trans (s18.trans (s19.trans (s20.trans s21))))))⟩
      have v_t12 : ∃ o tp, VE K d L X G21 (.ref t12) o tp := ⟨_, _, (ve_pair a_t12 N_t12.2.2 N_t12.1 X_t12 okw okp).same (s18.trans (s19.trans (s20.trans s21)))⟩
      have v_t13 : ∃ o tp, VE K d L X G21 (.ref t13) o tp := ⟨_, _, (ve_pair a_t13 N_t13.2.2 N_t13.1 X_t13 okm okp).same (s19.trans (s20.trans s21))⟩
      intro v hv
      simp only [List.mem_append, List.mem_cons, List.not_mem_nil, or_false, List.mem_flatten, List.mem_replicate] at hv
      rcases hv with ((h | h | h | h | h | h | h | h | h | h | h) | (h | h | h | h | h | h)) | ⟨l, ⟨_, rfl⟩, h⟩
      · rw [h]; exact flat at_non (at_non.sh.up (by decide)) (fun a b => by simp [PyData.eqv]) (.inl rfl)
      · rw [h]; exact flat (x := .bool true) ⟨fun _ _ => .bl true, ⟨rfl, by simp [PyData.depth]⟩⟩ ⟨rfl, by simp [PyData.depth]⟩ (fun a b => by simp [PyData.eqv]) (.inr (.inl ⟨_, rfl⟩))
      · rw [h]; exact flat (x := .int 0) ⟨fun _ _ => .int 0, ⟨rfl, by simp [PyData.depth]⟩⟩ ⟨rfl, by simp [PyData.depth]⟩ (fun a b => by simp [PyData.eqv]) (.inr (.inr (.inl ⟨_, rfl⟩)))
      · rw [h]; exact flat (at_str oke) ((sh_str oke).up (by decide)) (fun a b => by simp [PyData.eqv]) (.inr (.inr (.inr ⟨_, rfl⟩)))
      · rw [h]; exact flat (at_str okw) ((sh_str okw).up (by decide)) (fun a b => by simp [PyData.eqv]) (.inr (.inr (.inr ⟨_, rfl⟩)))
      · rw [h]; exact v_t1
      · rw [h]; exact v_t2
      · rw [h]; exact v_t3
      · rw [h]; exact v_l4
      · rw [h]; exact v_t5
      · rw [h]; exact v_t6
      · rw [h]; exact v_t7
      · rw [h]; exact v_t8
      · rw [h]; exact v_t9
      · rw [h]; exact v_t10
      · rw [h]; exact v_t11
      · rw [h]; exact v_dd
      · rcases List.mem_cons.mp h with h | h
        · rw [h]; exact v_t12
        · rw [List.mem_singleton.mp h]; exact v_t13
    have sEnd : Same G0 G21 := s1.trans (s2.trans (s3.trans (s4.trans (s5.trans (s6.trans (s7.trans (s8.trans (s9.trans (s10.trans (s11.trans (s12.trans (s13.trans (s14.trans (s15.trans (s16.trans (s17.trans (s18.trans (s19.trans (s20.trans (s21))))))))))))))))))))
    have kE : Kp d L H G21 := k02.trans (Same.kp sEnd)
    have WE := W.kp kE D wd ud sd gL
    have ME := hM.kpD D kE md mL
    refine ⟨.ref m, rfl, .ref ww, rfl, m, ww, ps, cs, gs, tp, g, u, sA, c, gone, us, sn, rfl, ME, WE, by omega, by omega, by omega, fun Gc pc xc sc npc hpc hxc => ?_⟩
    have Dc := D21.same sc
    have kc : Kp d L H Gc := kE.trans (Same.kp sc)
    have pcL := D21.neL npc
    have hA6 := sc _ _ a_A6
    have A6L := N_A6
    have shE : ∀ e ∈ srtP (eventsOf ps gone us), SeqAt.shaped (partD e) = true := fun e he => by
      have := evs e ((srtP_perm _).mem_iff.mp he)
      exact (sh2 (n := 0) (sh_str this.1) (sh_str this.2)).shaped (by decide)
    have shE2 : ∀ e ∈ srtP (eventsOf ps gone us), ShOk 60 (partD e) := fun e he => by
      have := evs e ((srtP_perm _).mem_iff.mp he)
      exact (sh2 (n := 0) (sh_str this.1) (sh_str this.2)).up (by decide)
    have elen : xc.length = (srtP (eventsOf ps gone us)).length := Paired.length hxc
    have ele : (srtP (eventsOf ps gone us)).length ≤ 900 := by
      rw [(srtP_perm _).length_eq]
      unfold eventsOf
      rw [List.length_append, List.length_map, List.length_map]
      have h2 := List.length_filter_le (failable gone us) ps
      omega
    refine ⟨.ref pc, rfl, Nat.zero_le _, fun el nel => ?_⟩
    have se : Same Gc (upd Gc el (.lst [])) := Same.new nel
    have hel : (upd Gc el (.lst [])) el = some (.lst []) := upd_same
    generalize upd Gc el (.lst []) = Ge at se hel ⊢
    have De := Dc.same se
    have ke : Kp d L H Ge := kc.trans (Same.kp se)
    have hpe := se _ _ hpc
    have hxe : Paired (PartAt K Ge) xc (srtP (eventsOf ps gone us)) := Paired.imp2 (fun _ _ r => PartAt.kt (Same.kt se) r) hxc
    have pickSome : ∀ {Hz : Hp}, Dr Hz d L C → Kp d L Ge Hz → tCall (spPick2 K) [] E0 (tCons (tVar 0) (tCons (tVar 5) tNil)) [some (.ref d), some (.ref m), some (.ref ww), some (.str pn), some (.str gn), some (.ref A6), some (.ref pc)] Hz Q := fun {Hz} Dz kz => by
      refine ⟨.ref d, rfl, .ref A6, rfl, d, L, C, .ref A6, rfl, Dz, .inl ⟨A6, _, rfl, A6L.1, .inl (.of (kz.lst De A6L.1 (se _ _ hA6))), by simp, by simp, fun H' x D' k' hx => ?_⟩⟩
      obtain ⟨o, tp2, hv⟩ := VA x hx
      exact q H' x o tp2 D' (ke.trans (kz.trans k')) (((hv.same (sc.trans se)).kp kz).kp k')
    refine ⟨.list ((srtP (eventsOf ps gone us)).map partD), .list [], .lst (.of hpe) (dp_pairs hxe), .lst (.of hel) .nil, shaped_list (fun x hx => ?_), by decide, !(srtP (eventsOf ps gone us)).isEmpty, by cases srtP (eventsOf ps gone us) <;> simp [PyData.eqv, PyData.eqvAll], ite2 (fun e1 => ?_) (fun e1 => ?_)⟩
    · obtain ⟨e2, he2, rfl⟩ := List.mem_map.mp hx
      exact shE2 e2 he2
    · refine ⟨.ref d, rfl, d, L, C, 2, rfl, De, by decide, by decide, fun Ha k1 Da2 ka _ _ => ⟨rfl, _, rfl, ite2 (fun e2 => ?_) (fun e2 => ?_)⟩⟩
      · refine ⟨.ref d, rfl, .ref pc, rfl, d, L, C, .ref pc, rfl, Da2, .inl ⟨pc, xc, rfl, pcL.1, .inl (.of (ka.lst De pcL.1 hpe)), ?_, by omega, fun H' x D' k' hx => ?_⟩⟩
        · rw [elen]
          cases hz : srtP (eventsOf ps gone us) with
          | nil => rw [hz] at e1; simp at e1
          | cons _ _ => simp
        · obtain ⟨i, hi⟩ := List.mem_iff_getElem?.mp hx
          obtain ⟨e, he, rp⟩ := paired_get hxe hi
          exact q H' x (some e) true D' (ke.trans (ka.trans k')) (((ve_partD De (se _ _ (sc _ _ hX21)) rp (shE e (List.mem_of_getElem? he))).kp ka).kp k')
      · exact pickSome Da2 ka
    · exact iteF (pickSome De Kp.refl)
end
end Kf

set_option Elab.async false
set_option linter.all false
set_option maxRecDepth 100000
set_option maxHeartbeats 2000000
namespace Kf
open PySem PySem.Spec PyProof.Rows L2 LamX NdefX TL
section
variable {P : Program} {w : World} {K : PySem.W.Frag} {mg : Str → Option Value} {base : Heap}
/-- the account of a row, new -/
structure Led (K : PySem.W.Frag) (H H' : Hp) (m ww g u sA : Addr) (c : Int) (gone : List Str) (sn : List (Str × Int)) (ps : List (Str × Str)) (cs : List (Str × List Str)) (gs : List G) (tp : Str) (st : St3) : Prop where
  sm : Same H H'
  nw : H ww = none
  ng : H g = none
  nu : H u = none
  ns : H sA = none
  mw : MWt K H' m ww g u ps cs gs tp
  W : WAt H' ww g u sA c gone st.2.1 sn
  ws : ww ≠ sA
  R : Rel ps gs st gone sn c
  si : SI ps gs cs tp st
  snl : sn.length ≤ 1000
def spLed (K : PySem.W.Frag) : Sp := fun vs H Q _ => ∃ d L C m r xs es ps cs gs tp, vs = [.ref m, .ref r] ∧ Dr H d L C ∧ M4 K d L H m ps cs gs tp ∧ PlantOk ps gs cs tp ∧ SqT K H r xs ∧ Paired (PartAt K H) xs es ∧ RowOk ps gs cs (st0 gs) es ∧
  ∀ H' ww g u sA c gone sn, Led K H H' m ww g u sA c gone sn ps cs gs tp (runSt ps gs cs (st0 gs) es) → Q (.ref ww) H'
theorem ok_led {f : Addr} {fd : FuncData} (F : L2.Fun K "_law_led" "_law_led" s__law_led f fd) (T : Nm mg) (C__law_fresh : Cal P w K mg base 4 "_law_fresh" ["m"] (spFresh K)) (C__law_event : Cal P w K mg base 4 "_law_event" ["m", "w", "deed"] (spEvent K)) : FnOk P w K mg base CX0 5 f fd ["m", "row"] (spLed K) := by
  refine F.ok sc__law_led (fun vs H Q E h => ?_) (fun cdv A outer s H vs Q E hr h => ?_)
  · obtain ⟨d, L, C, m, r, xs, es, ps, cs, gs, tp, rfl, _⟩ := h
    rfl
  · obtain ⟨d, L, C, m, r, xs, es, ps, cs, gs, tp, rfl, D, hM, ok, hr', hev, row, q⟩ := h
    refine ⟨_, (pss_cons (ps_set (i := 2) sc__law_led.nd rfl (.inl rfl) (pe_cal C__law_fresh (by decide) hr (by rfl) (pa_cons (pv 0) pa_nil)))
 (pss_cons (ps_for PassesOwn.never rfl (pi_sq (pv 1)) (pg_name (i := 3) sc__law_led.nd rfl (.inl rfl))
 (pss_one (ps_expr (pe_cal C__law_event (by decide) hr (by rfl) (pa_cons (pv 0) (pa_cons (pv 2) (pa_cons (pv 3) pa_nil)))))))
 (pss_one (ps_ret (pv 2))))), ?_⟩
    have gp : GP (ps.map (·.1)) gs := ok.gates.each
    have N := nmsOk_of gp
    have hf := full_of ok
    have hpl := ok.parts.hi
    have hgl := ok.gates.hi
    have eF : seat0 gs = firstU gs := first_eq N.gn hf
    obtain ⟨pa, ca, ga, xs0, zs, ys, hm, h1, e1, h2, e2, h3, e3, _⟩ := hM.ex
    refine ⟨.ref m, rfl, m, _, pa, xs0, ps, ga, ys, gs, rfl, hm, mk4_p, mk4_g, .inl (.of h1), e1, .inl (.of h3), e3, by rw [eF]; exact ok.top.tell, fun n' qs hq => ?_, fun H6 ww g u sA s6 nww ng nu ns W1 => ?_⟩
    · have := gp.pool n' qs hq
      rw [List.length_map] at this
      omega
    have si0 := si_first ok
    have R0 : Rel ps gs (st0 gs) [] (since0 ps gs) 0 := Rel.first ok
    have W6 : WAt H6 ww g u sA 0 [] (st0 gs).2.1 (since0 ps gs) := by
      show WAt H6 ww g u sA 0 [] (firstU gs) (since0 ps gs)
      rw [← eF]
      exact W1
    have wsA : ww ≠ sA := fun z => by
      have e := W6.hs
      rw [← z, W6.hw] at e
      have e2 := HO.dK.inj (Option.some.inj e)
      have v1 : valV (wkv g u sA 0) (.inr "gone") = valV (dS V.int (since0 ps gs)) (.inr "gone") := by rw [← e2]
      rw [wk_gone, valV_dS] at v1
      cases hz : getA (since0 ps gs) "gone" with
      | none => rw [hz] at v1; cases v1
      | some z0 => rw [hz] at v1; cases v1
    have snl0 : (since0 ps gs).length ≤ 1000 := by
      refine Nat.le_trans since_le ?_
      have : (lawTr [] (seat0 gs) [] 0 ps gs).length ≤ ps.length + gs.length := tellM_le
      omega
    have M6 := hM.mwt (ww := ww) (g := g) (u := u) D (Same.kp s6) nww ng nu
    have L6 : Led K H H6 m ww g u sA 0 [] (since0 ps gs) ps cs gs tp (st0 gs) := ⟨s6, nww, ng, nu, ns, M6, W6, wsA, R0, si0, snl0⟩
    have elx : xs.length = es.length := Paired.length hev
    refine ⟨.ref r, rfl, r, false, rfl, ⟨xs, Same.sqt s6 hr'⟩, for_it (walk_sq (b := false) (xs := xs)) (fun j σ Hx => ∃ y3 g u sA c gone sn, σ = [some (.ref m), some (.ref r), some (.ref ww), y3] ∧ Led K H Hx m ww g u sA c gone sn ps cs gs tp (runSt ps gs cs (st0 gs) (es.take j))) ⟨_, _, _, _, _, _, _, rfl, L6⟩ (fun j σ Hx hj p => ?_) (fun j x' σ Hx Hy hj p y => ?_) (fun σ Hx p => ?_)⟩
    · obtain ⟨_, _, _, _, _, _, _, _, B⟩ := p
      exact Same.sqt B.sm hr'
    · obtain ⟨y3, g, u, sA, c, gone, sn, rfl, B⟩ := p
      obtain ⟨rfl, hx'⟩ := y
      obtain ⟨e, he, rev⟩ := paired_get hev hx'
      obtain ⟨rok, rfok, hin⟩ := row.at si0.ok si0.fok he
      have eSt : runSt ps gs cs (st0 gs) (es.take (j + 1)) = (nextOf ps gs cs (runSt ps gs cs (st0 gs) (es.take j)) e).1 := by rw [show es.take (j + 1) = es.take j ++ [e] by rw [List.take_add_one, he]; rfl, runSt_snoc]
      rw [eSt]
      generalize runSt ps gs cs (st0 gs) (es.take j) = st at *
      refine ⟨.ref m, rfl, .ref ww, rfl, x', rfl, m, ww, x', e, ps, cs, gs, tp, st, g, u, sA, c, gone, sn, rfl, B.mw, B.W, B.ws, PartAt.kt (Same.kt B.sm) rev, B.si, evIn hin, B.R, B.snl, fun He pe s2 gone' sn' kwe We wse hs2n Re snle hpe => ?_⟩
      exact ⟨_, g, u, s2, c + 1, gone', sn', rfl, ⟨fun b o e => kwe _ _ (B.sm _ _ e) (ne_of_none e B.nw) (ne_of_none e B.ng) (ne_of_none e B.nu), B.nw, B.ng, B.nu, B.sm.free hs2n, B.mw.kw kwe B.W, We, wse, Re, (step_facts B.si (evIn hin)).si, snle⟩⟩
    · obtain ⟨y3, g, u, sA, c, gone, sn, rfl, B⟩ := p
      rw [elx, List.take_length] at B
      exact ⟨.ref ww, rfl, q _ _ _ _ _ _ _ _ B⟩
/-! ## _law_index -/
theorem RowOk.in_at {ps : List (Str × Str)} {gs : List G} {cs : List (Str × List Str)} : ∀ {es : List (Str × Str)} {i : Nat} {s : St3}, RowOk ps gs cs s es → ∀ {e : Str × Str}, es[i]? = some e → e ∈ eventsIn ps (runSt ps gs cs s (es.take i)).1 (runSt ps gs cs s (es.take i)).2.1
  | _, i, _, .nil, e, h => by simp at h
  | _, 0, _, .cons h t, e, he => by obtain rfl := Option.some.inj he; exact h
  | _, i + 1, _, .cons h t, e, he => t.in_at (i := i) (by simpa using he)
def VEs (K : PySem.W.Frag) (d L X : Addr) (H : Hp) (xs : List V) (os : List (Option (Str × Str))) : Prop := Paired (fun v o => ∃ t, VE K d L X H v o t) xs os
theorem VEs.same {d L X : Addr} {H H' : Hp} {xs : List V} {os : List (Option (Str × Str))} (h : VEs K d L X H xs os) (s : Same H H') : VEs K d L X H' xs os := Paired.imp2 (fun _ _ ⟨t, r⟩ => ⟨t, r.same s⟩) h
theorem VE.evs {d L X : Addr} {H : Hp} {xs : List V} {os : List (Option (Str × Str))} (h : VEs K d L X H xs os) : EvsAt K H xs os := Paired.imp2 (fun _ _ ⟨t, r⟩ => ⟨r.sh, let ⟨fp, a, _⟩ := r.ex; ⟨fp, a⟩⟩) h
def spIndex (K : PySem.W.Frag) : Sp := fun vs H Q _ => ∃ d L C X m r xs es l vs2 os es2 bad ps cs gs tp, vs = [.ref m, .ref r, .ref l] ∧ Dr H d L C ∧ M4 K d L H m ps cs gs tp ∧ PlantOk ps gs cs tp ∧ SqT K H r xs ∧ Paired (PartAt K H) xs es ∧ RowOk ps gs cs (st0 gs) es ∧ H l = some (.lst vs2) ∧ VEs K d L X H vs2 os ∧ Cut ps gs cs (runSt ps gs cs (st0 gs) es) os es2 bad ∧ os.length ≤ 100 ∧
  ∀ H', Same H H' → Q (if bad = true then .int (es2.length : Int) else .str "done") H'
theorem ok_index {f : Addr} {fd : FuncData} (F : L2.Fun K "_law_index" "_law_index" s__law_index f fd) (T : Nm mg) (C__law_led : Cal P w K mg base 5 "_law_led" ["m", "row"] (spLed K)) (C__law_can : Cal P w K mg base 1 "_law_can" ["m", "w"] (spCan K)) (C__law_event : Cal P w K mg base 4 "_law_event" ["m", "w", "deed"] (spEvent K)) : FnOk P w K mg base CX0 6 f fd ["m", "row", "some"] (spIndex K) := by
  refine F.ok sc__law_index (fun vs H Q E h => ?_) (fun cdv A outer s H vs Q E hr h => ?_)
  · obtain ⟨d, L, C, X, m, r, xs, es, l, vs2, os, es2, bad, ps, cs, gs, tp, rfl, _⟩ := h
    rfl
  · obtain ⟨d, L, C, X, m, r, xs, es, l, vs2, os, es2, bad, ps, cs, gs, tp, rfl, D, hM, ok, hr', hev, row, hl, hvs, ⟨row2, tl, eos, hcut⟩, hlen, q⟩ := h
    have hu65 : (A.deeper (envOfC "_law_index" (defScope s__law_index) s.heap.objs.size f cdv)).units + 65 < cLine := by have := hr.un; omega
    have hu64 := hr.units
    refine ⟨_, (pss_cons (ps_set (i := 3) sc__law_index.nd rfl (.inl rfl) (pe_cal C__law_led (by decide) hr (by rfl) (pa_cons (pv 0) (pa_cons (pv 1) pa_nil))))
 (pss_cons (ps_for PassesOwn.never rfl (pi_enum (by rfl) T.n_enumerate (pa_cons (pv 2) pa_nil)) (pg_tupK (K := K) (n := 2) rfl rfl (pgs_cons (pg_name (i := 4) sc__law_index.nd rfl (.inl rfl)) (pgs_cons (pg_name (i := 5) sc__law_index.nd rfl (.inl rfl)) pgs_nil)))
 (pss_cons (ps_if (PW.pt (pw_or (pt_not (pt_val (pe_callB call_isi (by rfl) T.n_isinstance (by decide +kernel) (pa_cons (pv 5) (pa_cons (pe_bltn (v := .ty "tuple") (by rfl) T.n_tuple (by decide +kernel) rfl) pa_nil))))) (pw_or1 (pt_cmpR (op_notInD hu65) (pv 5) (pe_cal C__law_can (by decide) hr (by rfl) (pa_cons (pv 0) (pa_cons (pv 3) pa_nil))) (by with_unfolding_all rfl)))))
 (pss_one (ps_ret (pv 4)))
 pss_nil)
 (pss_one (ps_expr (pe_cal C__law_event (by decide) hr (by rfl) (pa_cons (pv 0) (pa_cons (pv 3) (pa_cons (pv 5) pa_nil))))))))
 (pss_one (ps_ret pe_str)))), ?_⟩
    refine ⟨.ref m, rfl, .ref r, rfl, d, L, C, m, r, xs, es, ps, cs, gs, tp, rfl, D, hM, ok, hr', hev, row, fun H1 ww g u sA c gone sn B => ?_⟩
    have gp : GP (ps.map (·.1)) gs := ok.gates.each
    have hpl := ok.parts.hi
    have e0 : ∃ st, st = runSt ps gs cs (st0 gs) es := ⟨_, rfl⟩
    obtain ⟨s0, es0⟩ := e0
    rw [← es0] at B row2 hcut
    have elx : vs2.length = os.length := Paired.length hvs
    have elo : os.length = es2.length + tl.length := by rw [eos, List.length_append, List.length_map]
    refine ⟨.ref l, rfl, l, vs2, rfl, .of (B.sm _ _ hl), for_it (walk_enum (xs := vs2)) (fun i σ Hx => ∃ y4 y5 g u sA c gone sn, σ = [some (.ref m), some (.ref r), some (.ref l), some (.ref ww), y4, y5] ∧ Led K H Hx m ww g u sA c gone sn ps cs gs tp (runSt ps gs cs s0 (es2.take i)) ∧ i ≤ es2.length) ⟨_, _, _, _, _, _, _, _, rfl, B, Nat.zero_le _⟩ (fun i σ Hx hi p => ?_) (fun i y σ Hx Hy hi p yy => ?_) (fun σ Hx p => ?_)⟩
    · obtain ⟨_, _, _, _, _, _, _, _, _, B, _⟩ := p
      exact .of (B.sm _ _ hl)
    · obtain ⟨y4, y5, g, u, sA, c, gone, sn, rfl, B, hile⟩ := p
      obtain ⟨T', i', ev, rfl, nT, rfl, hi', hev'⟩ := yy
      obtain rfl := Option.some.inj hi'
      obtain ⟨o, hoi, tp2, hve⟩ := paired_get hvs hev'
      have sT : Same Hx (upd Hx T' (.tup [.int (i : Int), ev])) := Same.new nT
      have sT1 := B.sm.trans sT
      have hve1 := hve.same sT1
      have R := B.R
      have si := B.si
      have okr := si.ok
      have hgone : gone.length ≤ 8 := by
        have p : gone.Perm (runSt ps gs cs s0 (es2.take i)).1 := (List.perm_ext_iff_of_nodup R.nd si.fok.nd).mpr R.mem
        have := si.fok.len
        rw [p.length_eq]
        omega
      have hul : (runSt ps gs cs s0 (es2.take i)).2.1.length ≤ 8 := okr.ul
      have M1 := B.mw.kw (Same.kw sT) B.W
      have W1 := B.W.same sT
      have M1' : MWt K (upd Hx T' (.tup [.int (i : Int), ev])) m ww g u ps cs gs tp := B.mw.kw (Same.kw sT) B.W
      refine ⟨T', _, rfl, .of upd_same, rfl, .int (i : Int), _, rfl, ev, [], rfl, rfl, ?_⟩
      generalize upd Hx T' (.tup [.int (i : Int), ev]) = Hy at sT sT1 hve1 M1 W1 M1'
      have hil1000 : i ≤ 1000 := by omega
      -- what a bad one does
      have bad1 : BadEv (eventsIn ps (runSt ps gs cs s0 (es2.take i)).1 (runSt ps gs cs s0 (es2.take i)).2.1) o → ∀ Qt : Bool → Hp → Prop, (∀ H', Same H H' → Qt true H') → tOr (tNot (tB (tCB (rIsi K) (tCons (tVar 5) (tCons (tC (V.ty "tuple")) tNil))))) (tTest (tOp (rNotInX K) (tVar 5) (tCall (spCan K) [] E0 (tCons (tVar 0) (tCons (tVar 3) tNil))))) [some (.ref m), some (.ref r), some (.ref l), some (.ref ww), some (.int (i : Int)), some ev] Hy Qt := fun hb Qt hq => by
        cases tp2 with
        | true =>
          obtain ⟨fp, hof, _, ht⟩ := hve1.ex
          obtain ⟨t, ys, rfl, hs, _⟩ := ht
          refine ⟨.ref t, rfl, _, _, .type "tuple", .type "tuple", true, rfl, .ty _, ty_tup (hs Hy fun _ _ => rfl), kit_ty (by decide +kernel), true, rfl, ?_⟩
          refine iteF ?_
          refine ⟨.ref t, rfl, .ref m, rfl, .ref ww, rfl, m, ww, ps, cs, gs, tp, g, u, sA, c, gone, _, sn, rfl, M1, W1, by omega, by omega, by omega, fun H4 p xs4 s4 np hp hxs => ?_⟩
          rw [R.can si] at hxs
          exact notIn_bad (hof.sm (Same.sm (T := []) s4)) hb hp hxs hve1.sh (shaped_list fun d hd => by
            obtain ⟨e2, he2, rfl⟩ := List.mem_map.mp hd
            exact (evSh okr.pl.parts si.fok (evIn he2)).up (by decide)) ⟨true, rfl, hq _ (sT1.trans s4)⟩
        | false =>
          obtain ⟨fp, hof, _, ht⟩ := hve1.ex
          have no : ∀ {t : Value} {v : V}, TyX K Hy v t → PySem.W.kitOne K t (.type "tuple") = some false → tOr (tNot (tB (tCB (rIsi K) (tCons (tVar 5) (tCons (tC (V.ty "tuple")) tNil))))) (tTest (tOp (rNotInX K) (tVar 5) (tCall (spCan K) [] E0 (tCons (tVar 0) (tCons (tVar 3) tNil))))) [some (.ref m), some (.ref r), some (.ref l), some (.ref ww), some (.int (i : Int)), some v] Hy Qt := fun {t v} h1 h2 =>
            ⟨v, rfl, _, _, t, .type "tuple", false, rfl, .ty _, h1, h2, false, rfl, iteT (hq _ sT1)⟩
          rcases ht with rfl | ⟨b, rfl⟩ | ⟨z, rfl⟩ | ⟨z, rfl⟩ | ⟨b, kvs, rfl, _, z⟩ | ⟨b, kvs, rfl, _, z⟩
          · exact no (.base .non) (kit_ty (by decide +kernel))
          · exact no (.base (.bl b)) (kit_ty (by decide +kernel))
          · exact no (.base (.int z)) (kit_ty (by decide +kernel))
          · exact no (.base (.str z)) (kit_ty (by decide +kernel))
          · exact no (.base (.dK z)) (kit_ty (by decide +kernel))
          · exact no (.base (.lst z)) (kit_ty (by decide +kernel))
      by_cases hil : i < es2.length
      · obtain ⟨e, he⟩ : ∃ e, es2[i]? = some e := ⟨es2[i], List.getElem?_eq_getElem hil⟩
        obtain rfl : o = some e := by
          rw [eos, List.getElem?_append_left (by rw [List.length_map]; exact hil), List.getElem?_map, he] at hoi
          exact (Option.some.inj hoi).symm
        have hin : e ∈ eventsIn ps (runSt ps gs cs s0 (es2.take i)).1 (runSt ps gs cs s0 (es2.take i)).2.1 := row2.in_at he
        have eSt : runSt ps gs cs s0 (es2.take (i + 1)) = (nextOf ps gs cs (runSt ps gs cs s0 (es2.take i)) e).1 := by rw [show es2.take (i + 1) = es2.take i ++ [e] by rw [List.take_add_one, he]; rfl, runSt_snoc]
        rw [eSt]
        generalize runSt ps gs cs s0 (es2.take i) = st at *
        have htp : tp2 = true := by
          cases tp2 with
          | true => rfl
          | false => have := hve1.no rfl; cases this
        subst htp
        obtain ⟨fp, hof, _, t, ys, rfl, hs, _⟩ := hve1.ex
        have rev := hof.part
        refine ⟨.ref t, rfl, _, _, .type "tuple", .type "tuple", true, rfl, .ty _, ty_tup (hs Hy fun _ _ => rfl), kit_ty (by decide +kernel), true, rfl, iteF ?_⟩
        refine ⟨.ref t, rfl, .ref m, rfl, .ref ww, rfl, m, ww, ps, cs, gs, tp, g, u, sA, c, gone, _, sn, rfl, M1, W1, by omega, by omega, by omega, fun H4 p xs4 s4 np hp hxs => ?_⟩
        rw [R.can si] at hxs
        have sh1 := evSh okr.pl.parts si.fok (evIn hin)
        refine .inl ⟨partD e, (eventsIn ps st.1 st.2.1).map partD, (PartAt.kt (Same.kt s4) rev).dp, .lst (.of hp) (dp_pairs hxs), sh1.shaped (by decide), shaped_list fun d hd => ?_, false, by rw [any_part hin]; rfl, iteF (tNext_of ?_)⟩
        · obtain ⟨e2, he2, rfl⟩ := List.mem_map.mp hd
          exact (evSh okr.pl.parts si.fok (evIn he2)).up (by decide)
        refine ⟨.ref m, rfl, .ref ww, rfl, .ref t, rfl, m, ww, .ref t, e, ps, cs, gs, tp, st, g, u, sA, c, gone, sn, rfl, M1.kw (Same.kw s4) W1, W1.same s4, B.ws, PartAt.kt (Same.kt s4) rev, si, evIn hin, R, B.snl, fun He pe s2 gone' sn' kwe We wse hs2n Re snle hpe => ?_⟩
        have sx : Same H H4 := sT1.trans s4
        exact ⟨_, _, g, u, s2, c + 1, gone', sn', rfl, ⟨fun b o e => kwe _ _ (sx _ _ e) (ne_of_none e B.nw) (ne_of_none e B.ng) (ne_of_none e B.nu), B.nw, B.ng, B.nu, sx.free hs2n, (M1.kw (Same.kw s4) W1).kw kwe (W1.same s4), We, wse, Re, (step_facts si (evIn hin)).si, snle⟩, hil⟩
      · have ei : i = es2.length := by omega
        rcases hcut with ⟨_, rfl⟩ | ⟨rfl, o2, rr, rfl, hbo⟩
        · exfalso
          rw [eos, List.append_nil] at hoi
          have := (List.getElem?_eq_some_iff.mp hoi).1
          rw [List.length_map] at this
          omega
        · obtain rfl : o = o2 := by
            rw [eos, List.getElem?_append_right (by rw [List.length_map]; omega), List.length_map, ei, Nat.sub_self] at hoi
            exact (Option.some.inj hoi).symm
          have et : es2.take i = es2 := by rw [ei, List.take_length]
          refine bad1 (by rw [et]; exact hbo) _ fun H' sH => iteT ?_
          have hq := q H' sH
          rw [if_pos rfl, ← ei] at hq
          exact ⟨.int (i : Int), rfl, hq⟩
    · obtain ⟨y4, y5, g, u, sA, c, gone, sn, rfl, B, hle⟩ := p
      have htl : tl = [] := List.eq_nil_of_length_eq_zero (by omega)
      subst htl
      rcases hcut with ⟨rfl, _⟩ | ⟨_, o2, rr, z, _⟩
      · exact q Hx B.sm
      · cases z
end
end Kf

set_option Elab.async false
set_option linter.all false
set_option maxRecDepth 100000
set_option maxHeartbeats 2000000
namespace Kf
open PySem PySem.Spec PyProof.Rows L2 LamX NdefX TL
/-! ## behind a lambda: what is no table stays -/
section
variable {K : PySem.W.Frag} {T0 : List NTab} {C CR : Addr} {H H' : Hp}
theorem exL {b : Addr} {l : List V} (e : ExtN H H') (h : H b = some (.lst l)) : H' b = some (.lst l) := e b _ h (by intro _ z; cases z)
theorem exD {b : Addr} {l : List (Key × V)} (e : ExtN H H') (h : H b = some (.dK l)) : H' b = some (.dK l) := e b _ h (by intro _ z; cases z)
theorem exT (e : ExtN H H') : KT K H H' := fun b xs h => by
  rcases h with (h | ⟨o, h⟩) | h
  · exact .inl (.inl (e b _ h (by intro _ z; cases z)))
  · exact .inl (.inr ⟨o, e b _ h (by intro _ z; cases z)⟩)
  · exact .inr h
theorem Dr.ex {d L C : Addr} (D : Dr H d L C) (e : ExtN H H') : Dr H' d L C := by
  obtain ⟨ls, cs, r, t, m, D⟩ := D
  exact ⟨ls, cs, r, t, m, { D with hd := exD e D.hd, hL := exL e D.hL, hC := exL e D.hC }⟩
theorem M4.ex' {d L m : Addr} {ps : List (Str × Str)} {cs : List (Str × List Str)} {gs : List G} {tp : Str} (h : M4 K d L H m ps cs gs tp) (e : ExtN H H') : M4 K d L H' m ps cs gs tp := by
  obtain ⟨pa, ca, ga, xs, zs, ys, hm, h1, e1, h2, e2, h3, e3, n⟩ := h.ex
  exact ⟨pa, ca, ga, xs, zs, ys, exD e hm, exL e h1, e1.imp fun _ _ r => PartAt.kt (exT e) r, exL e h2, e2.imp fun _ _ r => CauseAt.kt (exT e) r, exL e h3, e3.imp fun _ _ r => GateAt.kt (exT e) r, n⟩
theorem MWt.ex' {m ww g u : Addr} {ps : List (Str × Str)} {cs : List (Str × List Str)} {gs : List G} {tp : Str} (h : MWt K H m ww g u ps cs gs tp) (e : ExtN H H') : MWt K H' m ww g u ps cs gs tp := h.all (exT e) (fun q => exD e q) (fun q => exL e q)
theorem WAt.ex' {ww g u s : Addr} {c : Int} {gone : List Str} {us : Uses} {sn : List (Str × Int)} (W : WAt H ww g u s c gone us sn) (e : ExtN H H') : WAt H' ww g u s c gone us sn := ⟨exD e W.hw, exL e W.hg, exD e W.hu, exD e W.hs, W.wu, W.su⟩
theorem RnObj.ex' {x : Addr} {ps : List (Str × Str)} {gs : List G} {cs : List (Str × List Str)} {tp : Str} {s : St3} (h : RnObj K C CR H x ps gs cs tp s) (e : ExtN H H') : RnObj K C CR H' x ps gs cs tp s := by
  obtain ⟨dx, a, v, h0, h1, h2⟩ := h.ex
  have kt := exT (K := K) e
  have ki : ∀ {b C dx : Addr} {fs : List (Str × V)}, H b = some (.ins C dx fs) → H' b = some (.ins C dx fs) := fun q => e _ _ q (by intro _ z; cases z)
  obtain ⟨sa, sb, sc, sd, ts, e0, t1, t2, ⟨o, t3, t3'⟩, t4, t5⟩ := h2.ex
  exact ⟨dx, a, v, ki h0, h1.kt kt fun _ _ _ e => ki e, sa, sb, sc, sd, ts, e0, kt _ _ t1, kt _ _ t2, ⟨o, e _ _ t3 (by intro _ z; cases z), t3'⟩, Paired.imp2 (fun _ _ r => kt _ _ r) t4, kt _ _ t5⟩
theorem VE.ex' {d L X : Addr} {v : V} {o : Option (Str × Str)} {tp : Bool} (h : VE K d L X H v o tp) (e : ExtN H H') : VE K d L X H' v o tp := h.to fun b u _ _ _ q n _ => e b u q n
/-- a change of a new instance -/
theorem ex_smx {H1 H2 H3 : Hp} {y : Addr} (e : ExtN H H1) (n : H1 y = none) (s2 : Sm T0 H1 H2) (s3 : SmX y T0 H2 H3) : ExtN H H3 := fun b o h nt => s3.kp b o (s2.kp b o (e b o h nt) nt) nt (ne_of_none (e b o h nt) n)
end
/-! ## _law_caught(lambda: ..) -/
/-- the def that catches -/
structure CghAt (K : PySem.W.Frag) (mg : Str → Option Value) (NE : Addr) : Prop where
  ex : ∃ g fd, mg "_law_caught" = some (.ref g) ∧ PySem.W.keepIn K (.ref g) = true ∧ L2.Fun K "_law_caught" "_law_caught" s__law_caught g fd ∧ Binds K fd ["work"] []
  xf : XfC K NE
  no : PySem.W.findIn K (.ref NE) "index" = some none
  exm : PySem.W.exmOne K (.ref NE) (.ref NE) = some true
  me : mg "NoEvent" = some (.ref NE)
theorem pe_caught {X : Cx} {T : List (Addr × Str)} {NE c P : Addr} {k : Nat} {params : Arguments} {body : Expr} {scope : Scope} {t : XK → TE} {p lpos pos : Pos} (Cg : CghAt X.K X.mg NE) (hg : Gl X "_law_caught")
    (TB : TabB X.base X.mg c P) (hcode : X.env.code = .ref c) (hmT : (P, X.env.qual ++ "<lambda>") ∈ T) (hu : ∀ p ∈ T, p.1 = P → p.2 = X.env.qual ++ "<lambda>") (hr : Room (k + 2) X.A) (L : LamS X.env.scope scope) (hdef : defaultsOf params X.env = ([], []))
    (hbind : ∀ (q : Str) (cl : List (Str × Addr)) (pm cv ctv : Value), bindArgs (PySem.W.kla_fn "<lambda>" q params body scope cl pm cv ctv) ⟨[], []⟩ = pure [])
    (hbody : ∀ (A : Around) (outer : List Env) (s : Shared) (H : Hp) (E : XK) (f c' : Addr), Room k (A.deeper (lamEnv X scope s.heap.objs.size f c')) → PE (lamCx X A outer s H E scope f c') body (t E)) :
    PE X (.Call (.Name "_law_caught" p) [.Lambda params body scope lpos] [] pos) (tLam T (TTcaught NE) t) := by
  obtain ⟨g, fd, mG, kG, F, hb⟩ := Cg.ex
  obtain ⟨oc, od, kV, doc, pm, an, cdv, ct, osl, rfl, lk, hcd⟩ := F.ex
  refine pe_lamcall (Ng := ["work", "found", "e"]) (a := "work") hg mG kG lk hcd hb sc__law_caught rfl (.inl rfl) ?_ TB hcode hmT hu hr L hdef hbind hbody
  exact caught_gives (X := X) (sg := defScope s__law_caught) Cg.xf Cg.no Cg.exm Cg.me rfl rfl rfl rfl
end Kf

set_option Elab.async false
set_option linter.all false
set_option maxRecDepth 100000
set_option maxHeartbeats 2000000
namespace Kf
open PySem PySem.Spec PyProof.Rows L2 LamX NdefX TL
/-! ## the text of a dict of truths is a text -/
def VC (x : Str) : Prop := ∀ c ∈ x.cps.toList, c < 1114112
theorem VC.app {x y : Str} (a : VC x) (b : VC y) : VC (x ++ y) := fun c hc => by
  rw [PySem.Str.cps_append, Array.toList_append] at hc
  exact (List.mem_append.mp hc).elim (a c) (b c)
theorem VC.ok {x : Str} (h : VC x) : PyData.strOk x = true := by
  unfold PyData.strOk
  rw [Array.all_eq_true]
  intro i hi
  exact decide_eq_true (h _ (by simp))
theorem repr_low : ∀ q ∈ [34, 39], ∀ c ∈ List.range' 97 26, ∀ e ∈ Builtin.Str.reprChar q c, e < 1114112 := by decide +kernel
theorem fold_vc {q : Nat} (hq : q ∈ [34, 39]) : ∀ (l : List Nat) (acc : Array Nat), (∀ c ∈ l, 97 ≤ c ∧ c ≤ 122) → (∀ c ∈ acc.toList, c < 1114112) → ∀ c ∈ (l.foldl (fun out c => out ++ (Builtin.Str.reprChar q c).toArray) acc).toList, c < 1114112
  | [], acc, _, ha => ha
  | c :: r, acc, hl, ha => fold_vc hq r _ (fun x hx => hl x (List.mem_cons_of_mem _ hx)) fun e he => by
    rw [Array.toList_append, List.mem_append] at he
    rcases he with he | he
    · exact ha e he
    · have := hl c (List.mem_cons_self ..)
      exact repr_low q hq c (List.mem_range'.mpr ⟨c - 97, by omega, by omega⟩) e (by simpa using he)
theorem vc_repr {x : Str} (h : ∀ c ∈ x.cps.toList, 97 ≤ c ∧ c ≤ 122) : VC (reprText x) := by
  have hq : reprQuote x ∈ [34, 39] := by
    unfold reprQuote
    split <;> simp
  have hq2 : reprQuote x < 1114112 := by
    rcases List.mem_cons.mp hq with h | h
    · omega
    · have := List.mem_singleton.mp h
      omega
  intro c hc
  unfold reprText at hc
  rw [Array.toList_push, List.mem_append] at hc
  rcases hc with hc | hc
  · rw [← Array.foldl_toList] at hc
    exact fold_vc hq x.cps.toList #[reprQuote x] h (fun e he => by
      have : e = reprQuote x := by simpa using he
      omega) c hc
  · rw [List.mem_singleton.mp hc]
    exact hq2
theorem vc_join : ∀ {l : List Str}, (∀ x ∈ l, VC x) → VC (Str.join ", " l)
  | [], _ => fun c hc => by
    have e : (Str.join ", " []).cps.toList = [] := rfl
    rw [e] at hc
    cases hc
  | [x], h => by
    have : Str.join ", " [x] = x := by simp [Str.join]
    rw [this]
    exact h x (by simp)
  | x :: y :: r, h => by
    show VC (x ++ ", " ++ Str.join ", " (y :: r))
    exact VC.app (VC.app (h x (by simp)) (by intro c hc; revert c; decide +kernel)) (vc_join fun z hz => h z (List.mem_cons_of_mem _ hz))
theorem vc_tr {tr : Tr} (h : ∀ p ∈ tr, NameOk p.1) : VC (trD tr).shown := by
  have kv : ∀ {tr : Tr}, (∀ p ∈ tr, NameOk p.1) → ∀ x ∈ PyData.shownKv (tr.map fun p => (PyData.str p.1, PyData.bool p.2)), VC x := by
    intro tr
    induction tr with
    | nil => intro _ x hx; simp [PyData.shownKv] at hx
    | cons p r ih =>
      intro h x hx
      simp only [List.map_cons, PyData.shownKv, List.mem_cons] at hx
      rcases hx with rfl | hx
      · refine VC.app (VC.app ?_ (by intro c hc; revert c; decide +kernel)) ?_
        · show VC (reprText p.1)
          exact vc_repr (h p (List.mem_cons_self ..)).low
        · show VC (if p.2 = true then ("True" : Str) else "False")
          split <;> (intro c hc; revert c; decide +kernel)
      · exact ih (fun q hq => h q (List.mem_cons_of_mem _ hq)) x hx
  show VC (dictText _)
  unfold dictText
  exact VC.app (VC.app (by intro c hc; revert c; decide +kernel) (vc_join (kv h))) (by intro c hc; revert c; decide +kernel)
end Kf

set_option Elab.async false
set_option linter.all false
set_option maxRecDepth 100000
set_option maxHeartbeats 2000000
namespace Kf
open PySem PySem.Spec PyProof.Rows L2 LamX NdefX TL
/-! ## what stands at each turn -/
def ExI (H H' : Hp) : Prop := ∀ b o, H b = some o → (∀ ps, o ≠ .tbl ps) → (∀ C dx fs, o ≠ .ins C dx fs) → H' b = some o
theorem exi_n {H H' : Hp} (e : ExtN H H') : ExI H H' := fun b o h n _ => e b o h n
theorem exi_sm {T : List NTab} {H H' : Hp} (s : Sm T H H') : ExI H H' := exi_n s.kp
theorem exi_smx {T : List NTab} {H H' : Hp} {x C dx : Addr} {fs : List (Str × V)} (s : SmX x T H H') (hx : H x = some (.ins C dx fs)) : ExI H H' := fun b o h n i => s.kp b o h n (fun z => by
  rw [z, hx] at h
  exact i _ _ _ (Option.some.inj h).symm)
theorem ExI.trans {H H1 H2 : Hp} (a : ExI H H1) (b : ExI H1 H2) : ExI H H2 := fun c o h n i => b c o (a c o h n i) n i
section
variable {K : PySem.W.Frag} {T0 : List NTab} {C CR : Addr} {H H' : Hp}
theorem iL {b : Addr} {l : List V} (e : ExI H H') (h : H b = some (.lst l)) : H' b = some (.lst l) := e b _ h (by intro _ z; cases z) (by intro _ _ _ z; cases z)
theorem iD {b : Addr} {l : List (Key × V)} (e : ExI H H') (h : H b = some (.dK l)) : H' b = some (.dK l) := e b _ h (by intro _ z; cases z) (by intro _ _ _ z; cases z)
theorem iT (e : ExI H H') : KT K H H' := fun b xs h => by
  rcases h with (h | ⟨o, h⟩) | h
  · exact .inl (.inl (e b _ h (by intro _ z; cases z) (by intro _ _ _ z; cases z)))
  · exact .inl (.inr ⟨o, e b _ h (by intro _ z; cases z) (by intro _ _ _ z; cases z)⟩)
  · exact .inr h
theorem Dr.exi {d L C : Addr} (D : Dr H d L C) (e : ExI H H') : Dr H' d L C := by
  obtain ⟨ls, cs, r, t, m, D⟩ := D
  exact ⟨ls, cs, r, t, m, { D with hd := iD e D.hd, hL := iL e D.hL, hC := iL e D.hC }⟩
theorem M4.exi {d L m : Addr} {ps : List (Str × Str)} {cs : List (Str × List Str)} {gs : List G} {tp : Str} (h : M4 K d L H m ps cs gs tp) (e : ExI H H') : M4 K d L H' m ps cs gs tp := by
  obtain ⟨pa, ca, ga, xs, zs, ys, hm, h1, e1, h2, e2, h3, e3, n⟩ := h.ex
  exact ⟨pa, ca, ga, xs, zs, ys, iD e hm, iL e h1, e1.imp fun _ _ r => PartAt.kt (iT e) r, iL e h2, e2.imp fun _ _ r => CauseAt.kt (iT e) r, iL e h3, e3.imp fun _ _ r => GateAt.kt (iT e) r, n⟩
theorem MWt.exi {m ww g u : Addr} {ps : List (Str × Str)} {cs : List (Str × List Str)} {gs : List G} {tp : Str} (h : MWt K H m ww g u ps cs gs tp) (e : ExI H H') : MWt K H' m ww g u ps cs gs tp := h.all (iT e) (fun q => iD e q) (fun q => iL e q)
theorem WAt.exi {ww g u s : Addr} {c : Int} {gone : List Str} {us : Uses} {sn : List (Str × Int)} (W : WAt H ww g u s c gone us sn) (e : ExI H H') : WAt H' ww g u s c gone us sn := ⟨iD e W.hw, iL e W.hg, iD e W.hu, iD e W.hs, W.wu, W.su⟩
theorem VE.exi {d L X : Addr} {v : V} {o : Option (Str × Str)} {tp : Bool} (h : VE K d L X H v o tp) (e : ExI H H') : VE K d L X H' v o tp := h.to fun b u _ _ _ q n i => e b u q n i
end
/-- all but the run -/
structure LB (K : PySem.W.Frag) (H : Hp) (d L1 Cc m ww g u sA r : Addr) (xs : List V) (es : List (Str × Str)) (c : Int) (gone : List Str) (sn : List (Str × Int)) (ps : List (Str × Str)) (cs : List (Str × List Str)) (gs : List G) (tp : Str) (st : St3) : Prop where
  D : Dr H d L1 Cc
  M : M4 K d L1 H m ps cs gs tp
  mw : MWt K H m ww g u ps cs gs tp
  W : WAt H ww g u sA c gone st.2.1 sn
  hr : SqT K H r xs
  ev : Paired (PartAt K H) xs es
  n1 : ww ≠ d
  n2 : u ≠ d
  n3 : sA ≠ d
  n4 : g ≠ L1
section
variable {K : PySem.W.Frag} {H H' : Hp} {d L1 Cc m ww g u sA r : Addr} {xs : List V} {es : List (Str × Str)} {c : Int} {gone : List Str} {sn : List (Str × Int)} {ps : List (Str × Str)} {cs : List (Str × List Str)} {gs : List G} {tp : Str} {st : St3}
theorem LB.exi (b : LB K H d L1 Cc m ww g u sA r xs es c gone sn ps cs gs tp st) (e : ExI H H') : LB K H' d L1 Cc m ww g u sA r xs es c gone sn ps cs gs tp st :=
  ⟨b.D.exi e, b.M.exi e, b.mw.exi e, b.W.exi e, (iT e) _ _ b.hr, Paired.imp2 (fun _ _ r => PartAt.kt (iT e) r) b.ev, b.n1, b.n2, b.n3, b.n4⟩
theorem LB.md (b : LB K H d L1 Cc m ww g u sA r xs es c gone sn ps cs gs tp st) : m ≠ d := by
  obtain ⟨_, _, _, _, _, _, _, _, _, _, _, _, _, md, _⟩ := b.M.ex
  exact md
theorem LB.mL (b : LB K H d L1 Cc m ww g u sA r xs es c gone sn ps cs gs tp st) : ∀ kvs pa, H m = some (.dK kvs) → (valV kvs (.inr "parts") = some (.ref pa) ∨ valV kvs (.inr "causes") = some (.ref pa) ∨ valV kvs (.inr "gates") = some (.ref pa)) → pa ≠ L1 := by
  obtain ⟨pa, ca, ga, _, _, _, hm, _, _, _, _, _, _, _, n1, n2, n3⟩ := b.M.ex
  intro kvs p hk h
  rw [hm] at hk
  obtain rfl := HO.dK.inj (Option.some.inj hk)
  rcases h with h | h | h
  · rw [mk4_p] at h
    cases h
    exact n1
  · rw [mk4_c] at h
    cases h
    exact n2
  · rw [mk4_g] at h
    cases h
    exact n3
theorem LB.kp (b : LB K H d L1 Cc m ww g u sA r xs es c gone sn ps cs gs tp st) (k : Kp d L1 H H') (D' : Dr H' d L1 Cc) : LB K H' d L1 Cc m ww g u sA r xs es c gone sn ps cs gs tp st :=
  ⟨D', b.M.kp b.D k, b.mw.kpD b.D k b.md b.mL, b.W.kp k b.D b.n1 b.n2 b.n3 b.n4, (k.kt b.D) _ _ b.hr, Paired.imp2 (fun _ _ r => PartAt.kt (k.kt b.D) r) b.ev, b.n1, b.n2, b.n3, b.n4⟩
theorem RnObj.kpD {C CR x : Addr} {s : St3} (h : RnObj K C CR H x ps gs cs tp s) (D : Dr H d L1 Cc) (k : Kp d L1 H H') : RnObj K C CR H' x ps gs cs tp s := by
  obtain ⟨dx, a, v, h0, h1, h2⟩ := h.ex
  have kt := k.kt (K := K) D
  obtain ⟨_, _, _, _, _, D'⟩ := D
  have ki : ∀ {b C dx : Addr} {fs : List (Str × V)}, H b = some (.ins C dx fs) → H' b = some (.ins C dx fs) := fun e => k _ _ e (ne_of e D'.hd (by intro z; cases z)) (ne_of e D'.hL (by intro z; cases z))
  obtain ⟨sa, sb, sc, sd, ts, e, t1, t2, ⟨o, t3, t3'⟩, t4, t5⟩ := h2.ex
  exact ⟨dx, a, v, ki h0, h1.kt kt fun _ _ _ e => ki e, sa, sb, sc, sd, ts, e, kt _ _ t1, kt _ _ t2, ⟨o, k _ _ t3 (ne_of t3 D'.hd (by intro z; cases z)) (ne_of t3 D'.hL (by intro z; cases z)), t3'⟩, Paired.imp2 (fun _ _ r => kt _ _ r) t4, kt _ _ t5⟩
/-- the facts of the account -/
structure LF (ps : List (Str × Str)) (gs : List G) (cs : List (Str × List Str)) (tp : Str) (gone : List Str) (sn : List (Str × Int)) (c : Int) (st : St3) : Prop where
  R : Rel ps gs st gone sn c
  si : SI ps gs cs tp st
  hd : HdEq ps gs st
theorem LF.gl (h : LF ps gs cs tp gone sn c st) : gone.length ≤ 8 := by
  have p : gone.Perm st.1 := (List.perm_ext_iff_of_nodup h.R.nd h.si.fok.nd).mpr h.R.mem
  have := h.si.fok.len
  have := h.si.ok.pl.parts.hi
  rw [p.length_eq]
  omega
theorem ev_words {ps : List (Str × Str)} {st : St3} {e : Str × Str} (ok : PartsOk ps) (f : FailOk ps st.1) (h : EvOk ps st e) : StrOk e.1 ∧ StrOk e.2 := by
  rcases h.ex with ⟨h1, h2⟩ | ⟨h1, h2, _⟩
  · exact ⟨by rw [h1]; decide +kernel, ok.names _ (f.sub _ h2)⟩
  · exact ⟨by rw [h1]; decide +kernel, ok.names _ h2⟩
theorem LF.words (h : LF ps gs cs tp gone sn c st) : ∀ e ∈ eventsOf ps gone st.2.1, StrOk e.1 ∧ StrOk e.2 := fun e he => by
  refine ev_words h.si.ok.pl.parts h.si.fok (evIn (ps := ps) (s := st) ?_)
  rw [← h.R.can h.si]
  exact (srtP_perm _).mem_iff.mpr he
end
end Kf

set_option Elab.async false
set_option linter.all false
set_option maxRecDepth 100000
set_option maxHeartbeats 4000000
namespace Kf
open PySem PySem.Spec PyProof.Rows L2 LamX NdefX TL
section
variable {P : Program} {w : World} {K : PySem.W.Frag} {mg : Str → Option Value} {base : Heap}
/-- as okG, the code object known -/
theorem okGC {x qual : Str} {st : Stmt} {f c : Addr} {fd : FuncData} {N ps : List Str} {k : Nat} {sp : Sp} (F : FunC K x qual st f fd c) (S : FnScope N ps (defScope st)) (len : ∀ vs H Q E, sp vs H Q E → vs.length = ps.length)
    (hbody : ∀ (A : Around) (outer : List Env) (s : Shared) (H : Hp) (vs : List V) (Q : VK) (E : XK), Room k (A.deeper (envOfC qual (defScope st) s.heap.objs.size f (.ref c))) → (A.deeper (envOfC qual (defScope st) s.heap.objs.size f (.ref c))).guards = some [] → sp vs H Q E →
      ∃ t, PSs (cxOf CX0 P w K mg base N qual (defScope st) f (.ref c) A outer s H E).nox (defBody st) t ∧ t { nx := fun _ H' => Q .non H', rt := Q } (L2.start N vs) H) : FnOkG P w K mg base (k + 1) f fd ps sp := by
  obtain ⟨oc, od, kV, doc, pm, an, ct, osl, rfl, lk, hcd⟩ := F.ex
  refine ⟨len, fun A outer s H args us vs Q E hr hg e0 hb r hsp => ?_⟩
  refine run_ofS lk hcd S hr e0 hb r (len _ _ _ _ hsp) fun hr' => ?_
  obtain ⟨t, h, q⟩ := hbody A outer s H vs Q E hr' hg hsp
  exact ⟨t, h.nox, q⟩
structure MetXK (P : Program) (w : World) (K : PySem.W.Frag) (mg : Str → Option Value) (base : Heap) (k : Nat) (C : Addr) (m : Str) (ks : List Str) (sp : Sp) : Prop where
  ex : ∃ (f : Addr) (fd : FuncData) (ps : List Str), Cls K C ∧ Meth K C m f ∧ FnOk P w K mg base (L2.CX P w) k f fd ps sp ∧ KBinds K fd ps ks gK2 gV2
theorem pe_mXK {X : Cx} {k j : Nat} {C : Addr} {m : Str} {ks : List Str} {sp : Sp} {W : WX} {E : XK} {pos apos : Pos} {o : Expr} {kws : List Keyword} {ta : TE} {tk : TA} {pl : Sem Bool} (M : MetXK X.prog X.w X.K X.mg X.base k C m ks sp) (tak : Takes X W) (hW : ∀ cls d σ H, E cls d H → W cls d σ H) (hr : Room j X.A) (hk : k ≤ j) (he : PE X o ta) (hkw : PK X kws tk)
    (hall : (backToKw pos (keywordEach kws X.env)).all (·.1.isSome) = true := by rfl) (hks : (backToKw pos (keywordEach kws X.env)).filterMap (·.1) = ks := by rfl)
    (hpl : ((backTo pos (starEach [] X.env)).any (·.1) || (backToKw pos (keywordEach kws X.env)).any (·.1.isNone)) = false := by rfl)
    (ht : eval (.Call (.Attribute o m apos) [] kws pos) X.env = (do
      let ov ← eval o X.env
      standAt apos.atName
      let (f, first) ← holding [ov] (getMethod ov m pl)
      callWith pos f first (backTo pos (starEach [] X.env)) (backToKw pos (keywordEach kws X.env))) := by rfl) :
    PE X (.Call (.Attribute o m apos) [] kws pos) (tMethK C m sp E ta tk) := by
  obtain ⟨f, fd, ps, hc, hm, F, hb⟩ := M.ex
  exact pe_methK (pl := pl) he hc hm F (hr.mono hk) hb (passes_call tak hW) hkw hall hks hpl ht
def TTo (TT : List (Addr × Str)) : List NTab := TT.map fun p => (p.1, fun _ _ => p.2)
theorem tabs_iff {TT : List (Addr × Str)} {H : Hp} : TabsN (TTo TT) H ↔ Tabs TT H := by
  constructor
  · intro h p hp
    exact (h _ (List.mem_map.mpr ⟨p, hp, rfl⟩)).to
  · intro h q hq
    obtain ⟨p, hp, rfl⟩ := List.mem_map.mp hq
    exact TabN.of (h p hp)
def spLaw (K : PySem.W.Frag) (T0 : List NTab) : Sp := fun vs H Q _ => ∃ (a : Addr) (ns : List Int), vs = [.ref a] ∧ SqL K H a (ns.map V.int) ∧ ns.length ≤ 63 ∧ TabsN T0 H ∧ ∀ H', Q (.bl true) H'
theorem sh_two {ps : List (Str × Str)} {gs : List G} {cs : List (Str × List Str)} {tp : Str} {s : St3} {txt : Str} (h : SI ps gs cs tp s) (hh : HdEq ps gs s) (hv : VC txt) : SeqAt.shaped (.tuple [stD s, .str txt]) = true := by
  have a1 : ShOk 1 (strsD s.1) := sh_strs fun x hx => h.ok.pl.parts.names x (h.fok.sub x hx)
  have a2 : ShOk 2 (.tuple (s.2.1.map partD)) := sh_tup fun d hd => by
    obtain ⟨p, hp, rfl⟩ := List.mem_map.mp hd
    exact use_sh h hp
  have a3 : ShOk 1 (strsD s.2.2) := sh_strs fun x hx => by
    rw [hh] at hx
    obtain ⟨g, hg, rfl⟩ := List.mem_map.mp hx
    exact GatesOk.names h.ok.pl.gates _ (List.mem_map.mpr ⟨g, (List.mem_filter.mp hg).1, rfl⟩)
  have a : ShOk 3 (stD s) := sh_tup fun d hd => by
    simp only [List.mem_cons, List.not_mem_nil, or_false] at hd
    rcases hd with rfl | rfl | rfl
    · exact a1.up (by decide)
    · exact a2
    · exact a3.up (by decide)
  exact (sh2 (n := 3) a (⟨hv.ok, by simp [PyData.depth]⟩ : ShOk 3 (.str txt))).shaped (by decide)
theorem cut_ex (ps : List (Str × Str)) (gs : List G) (cs : List (Str × List Str)) : ∀ (os : List (Option (Str × Str))) (s : St3), ∃ es bad, Cut ps gs cs s os es bad
  | [], s => ⟨[], false, .nil, [], rfl, .inl ⟨rfl, rfl⟩⟩
  | none :: r, s => ⟨[], true, .nil, none :: r, rfl, .inr ⟨rfl, none, r, rfl, True.intro⟩⟩
  | some e :: r, s => by
    by_cases h : e ∈ eventsIn ps s.1 s.2.1
    · obtain ⟨es, bad, row, t, h1, h2⟩ := cut_ex ps gs cs r (nextOf ps gs cs s e).1
      exact ⟨e :: es, bad, .cons h row, t, by rw [h1]; rfl, h2⟩
    · exact ⟨[], true, .nil, some e :: r, rfl, .inr ⟨rfl, some e, r, rfl, h⟩⟩
theorem StAt.dpx {K : PySem.W.Frag} {H H' : Hp} {v : V} {s : St3} (h : St3At K H v s) (k : KT K H H') : Dp K H' v (stD s) := by
  obtain ⟨a, b, c, d, ts, rfl, h1, h2, h3, h4, h5⟩ := h.ex
  exact .tup (k _ _ h1) (.cons (dp_strs (k _ _ h2)) (.cons (.tup (k _ _ h3.sqt) (dp_refs (Paired.imp2 (fun _ _ r => k _ _ r) h4))) (.cons (dp_strs (k _ _ h5)) .nil)))
theorem hd_run {ps : List (Str × Str)} {gs : List G} {cs : List (Str × List Str)} {tp : Str} : ∀ {es : List (Str × Str)} {s : St3}, SI ps gs cs tp s → HdEq ps gs s → RowOk ps gs cs s es → HdEq ps gs (runSt ps gs cs s es)
  | _, _, _, hd, .nil => hd
  | _, s, si, hd, .cons (e := e) h t => by
    have := hd_run (s := (nextOf ps gs cs s e).1) (step_facts si (evIn h)).si (held_next si (evIn h)) t
    exact this
theorem tr_facts {ps : List (Str × Str)} {gs : List G} {cs : List (Str × List Str)} {tp : Str} {st : St3} {ys : List Str} (ok : PlantOk ps gs cs tp) (hp : ys.Perm ((trIn ps gs st).map (·.1))) : (trD (ys.map fun n => (n, lookT (trIn ps gs st) n))).shown.length ≤ sizeLine ∧ VC (trD (ys.map fun n => (n, lookT (trIn ps gs st) n))).shown := by
  have nm : ∀ p ∈ ys.map fun n => (n, lookT (trIn ps gs st) n), NameOk p.1 := fun p hp2 => by
    obtain ⟨n, hn, rfl⟩ := List.mem_map.mp hp2
    have : n ∈ ps.map (·.1) ++ gs.map G.name := keys_in (bf := bfHeld st.2.2) (fl := st.1) (us := st.2.1) (hp.mem_iff.mp hn)
    rcases List.mem_append.mp this with h | h
    · obtain ⟨pq, hpq, e⟩ := List.mem_map.mp h
      show NameOk n
      rw [← e]
      exact (ok.parts.each pq hpq).name
    · obtain ⟨gg, hgg, e⟩ := List.mem_map.mp h
      obtain ⟨i, hi⟩ := List.mem_iff_getElem?.mp hgg
      show NameOk n
      rw [← e]
      exact (ok.gates.each i gg hi).name
  have tl : ys.length ≤ 100 := by
    have h1 : (tellM (bfHeld st.2.2) st.1 st.2.1 ps gs).length ≤ ps.length + gs.length := tellM_le
    have h2 := ok.parts.hi
    have h3 := ok.gates.hi
    have h4 : ((trIn ps gs st).map (·.1)).length ≤ ps.length + gs.length := by rw [List.length_map]; exact h1
    have := hp.length_eq
    omega
  exact ⟨trD_fits nm (by rw [List.length_map]; exact tl), vc_tr nm⟩
theorem ok_law {f cL PL C CR NE : Addr} {fd : FuncData} {TT : List (Addr × Str)} (F : FunC K "law" "law" s_law f fd cL) (T : Nm mg) (LR : RnC K mg CR) (L : PlC K mg C) (Cg : CghAt K mg NE) (TB : TabB base mg cL PL) (hmT : (PL, ("law.<locals>.<lambda>" : Str)) ∈ TT) (huT : ∀ p ∈ TT, p.1 = PL → p.2 = "law.<locals>.<lambda>")
    (R_state : PropC P w K mg base CR "state" "_state") (C__law_begin : Cal P w K mg base 1 "_law_begin" ["script"] (spBegin K)) (C__law_take : Cal P w K mg base 1 "_law_take" ["draw", "size"] spTake) (C__law_pick : Cal P w K mg base 2 "_law_pick" ["draw", "some"] (spPick2 K)) (C__law_plant : Cal P w K mg base 5 "_law_plant" ["draw", "most_parts", "most_gates", "most_causes"] (spPlantL K)) (M : MakC P w K mg base 7 "Run" CR ["self", "plant"] (spRunInit K C CR (TTo TT))) (C__law_made : Cal P w K mg base 8 "_law_made" ["m"] (spMade K C (TTo TT)))
    (C__law_row : Cal P w K mg base 5 "_law_row" ["draw", "m", "many"] (spRow K)) (C__law_led : Cal P w K mg base 5 "_law_led" ["m", "row"] (spLed K)) (C__law_can : Cal P w K mg base 1 "_law_can" ["m", "w"] (spCan K)) (C__law_any_event : Cal P w K mg base 3 "_law_any_event" ["draw", "m", "w"] (spAnyEv K)) (C__law_index : Cal P w K mg base 6 "_law_index" ["m", "row", "some"] (spIndex K))
    (M_truths : C8.Met P w K mg base 6 CR "truths" (spTruths K C CR (TTo TT)) []) (M_copy : C8.Met P w K mg base 10 CR "copy" (spCopy K C CR (TTo TT)) []) (M_do_all : C8.Met P w K mg base 8 CR "do_all" (spDoAll K C CR (TTo TT)) []) (X_do : MetX P w K mg base 9 CR "do" (spDoX K C CR NE (TTo TT))) (X_do_all : MetX P w K mg base 8 CR "do_all" (spDoAllX K C CR NE (TTo TT))) (XK_do : MetXK P w K mg base 9 CR "do" ["event"] (spDoX K C CR NE (TTo TT))) :
    FnOkG P w K mg base 13 f fd ["script"] (spLaw K (TTo TT)) := by
  refine okGC F sc_law (fun vs H Q E h => ?_) (fun A outer s H vs Q E hr hg h => ?_)
  · obtain ⟨a, ns, rfl, _⟩ := h
    rfl
  · obtain ⟨a, ns, rfl, hA, hl, hT, q⟩ := h
    have hu := hu_of hr
    have hu64 := hr.units
    have hu65 : (A.deeper (envOfC "law" (defScope s_law) s.heap.objs.size f (.ref cL))).units + 65 < cLine := by have := hr.un; omega
    refine ⟨_, (pss_cons (ps_set (i := 1) sc_law.nd rfl (.inr rfl) (pe_cal C__law_begin (by decide) hr (by rfl) (pa_cons (pv 0) pa_nil)))
 (pss_cons (ps_for PassesOwn.never rfl (pi_range1 rfl T.n_range (pa_cons (pe_op op_add pe_int (pe_callB (call_min2 rfl) (by rfl) T.n_min (by decide +kernel) (pa_cons (pe_callB (call_lenK (K := K) rfl) (by rfl) T.n_len (by decide +kernel) (pa_cons (pv 0) pa_nil)) (pa_cons pe_int pa_nil)))) pa_nil)) (pg_name (i := 2) sc_law.nd rfl (.inl rfl))
 (pss_cons (ps_set (i := 3) sc_law.nd rfl (.inr rfl) (pe_cal C__law_plant (by decide) hr (by rfl) (pa_cons (pv 1) (pa_cons pe_int (pa_cons pe_int (pa_cons pe_int pa_nil))))))
 (pss_cons (ps_set (i := 4) sc_law.nd rfl (.inl rfl) (pe_cal C__law_row (by decide) hr (by rfl) (pa_cons (pv 1) (pa_cons (pv 3) (pa_cons pe_int pa_nil)))))
 (pss_cons (ps_asg (pe_tup (pa_cons (pe_mak M (by decide) hr (by rfl) (pa_cons (pe_cal C__law_made (by decide) hr (by rfl) (pa_cons (pv 3) pa_nil)) pa_nil)) (pa_cons (pe_cal C__law_led (by decide) hr (by rfl) (pa_cons (pv 3) (pa_cons (pv 4) pa_nil))) pa_nil))) (pg_tupK (K := K) (n := 2) rfl rfl (pgs_cons (pg_name (i := 5) sc_law.nd rfl (.inr rfl)) (pgs_cons (pg_name (i := 6) sc_law.nd rfl (.inr rfl)) pgs_nil))))
 (pss_cons (ps_expr (C8.pe_mt M_do_all hr (by decide) (pv 5) (pa_cons (pv 4) pa_nil)))
 (pss_cons (ps_set (i := 7) sc_law.nd rfl (.inl rfl) (pe_tup (pa_cons (pe_propC R_state LR.cl (by decide) hr (pv 5) rfl) (pa_cons (pe_callB (call_reprT hg hr) (by rfl) T.n_repr (by decide +kernel) (pa_cons (C8.pe_mt0 M_truths hr (by decide) (pv 5)) pa_nil)) pa_nil))))
 (pss_cons (ps_for PassesOwn.never rfl (pi_range1 rfl T.n_range (pa_cons pe_int pa_nil)) (pg_name (i := 8) sc_law.nd rfl (.inl rfl))
 (pss_cons (ps_set (i := 9) sc_law.nd rfl (.inr rfl) (pe_cal C__law_any_event (by decide) hr (by rfl) (pa_cons (pv 1) (pa_cons (pv 3) (pa_cons (pv 6) pa_nil)))))
 (pss_cons (ps_set (i := 10) sc_law.nd rfl (.inl rfl) (pe_and (pe_callB call_isi (by rfl) T.n_isinstance (by decide +kernel) (pa_cons (pv 9) (pa_cons (pe_bltn (v := .ty "tuple") (by rfl) T.n_tuple (by decide +kernel) rfl) pa_nil))) (pe_one (pe_cmpR (op_inD hu65) (pv 9) (pe_cal C__law_can (by decide) hr (by rfl) (pa_cons (pv 3) (pa_cons (pv 6) pa_nil))) (by with_unfolding_all rfl)))))
 (pss_cons (ps_if (pt_cmpR (op_neD hu64) (pe_caught (k := 10) Cg (by rfl) TB rfl hmT huT hr (lamS_by (show lamSB (defScope s_law) _ = true by decide +kernel)) rfl (fun _ _ _ _ _ => rfl) (fun A outer s H E f c' hr2 => pe_mX (W := fun cls d _ H' => E cls d H') (E := E) X_do (takes_of rfl rfl rfl rfl) (fun _ _ _ _ h => h) hr2 (by decide) (C8.pe_mt0 M_copy hr2 (by decide) (pv 5)) (pa_cons (pv 9) pa_nil))) (pe_ifExp (pt_truth (pv 10) (by intro _; rfl)) pe_str pe_int) (nomark _))
 (pss_one (ps_ret pe_bl))
 pss_nil)
 (pss_cons (ps_if (PW.pt (pw_and (pt_not (pt_truth (pv 10) (by intro _; rfl))) (pw_and1 (pt_cmpR (op_neD hu64) (pe_caught (k := 10) Cg (by rfl) TB rfl hmT huT hr (lamS_by (show lamSB (defScope s_law) _ = true by decide +kernel)) rfl (fun _ _ _ _ _ => rfl) (fun A outer s H E f c' hr2 => pe_mXK (W := fun cls d _ H' => E cls d H') (E := E) XK_do (takes_of rfl rfl rfl rfl) (fun _ _ _ _ h => h) hr2 (by decide) (pv 5) (pk_cons (pv 9) pk_nil))) pe_int (nomark _)))))
 (pss_one (ps_ret pe_bl))
 pss_nil)
 (pss_cons (ps_set (i := 11) sc_law.nd rfl (.inr rfl) (pe_lc (own := [("k", 14)]) (g := gName 14) (by rfl) sc_law.nd (pi_range1 rfl T.n_range (pa_cons (pe_cal C__law_take (by decide) hr (by rfl) (pa_cons (pv 1) (pa_cons pe_int pa_nil))) pa_nil)) (blkOk_by (own := [("k", 14)]) (N := ["script", "draw", "turn", "m", "row", "run", "w", "shown", "lap", "one", "is_good", "some", "due", "odd", "k"]) (sc := defScope s_law) (by decide +kernel)) (fun _ _ _ _ _ => pg_name (i := 14) sc_law.nd rfl (.inl rfl)) (fun _ _ _ _ _ => pts_nil) (fun _ _ _ _ _ => (pe_cal C__law_any_event (by decide) hr (by rfl) (pa_cons (pv 1) (pa_cons (pv 3) (pa_cons (pv 6) pa_nil)))))))
 (pss_cons (ps_set (i := 12) sc_law.nd rfl (.inl rfl) (pe_cal C__law_index (by decide) hr (by rfl) (pa_cons (pv 3) (pa_cons (pv 4) (pa_cons (pv 11) pa_nil)))))
 (pss_cons (ps_if (pt_cmpR (op_neD hu64) (pe_caught (k := 10) Cg (by rfl) TB rfl hmT huT hr (lamS_by (show lamSB (defScope s_law) _ = true by decide +kernel)) rfl (fun _ _ _ _ _ => rfl) (fun A outer s H E f c' hr2 => pe_mX (W := fun cls d _ H' => E cls d H') (E := E) X_do_all (takes_of rfl rfl rfl rfl) (fun _ _ _ _ h => h) hr2 (by decide) (C8.pe_mt0 M_copy hr2 (by decide) (pv 5)) (pa_cons (pv 11) pa_nil))) (pv 12) (nomark _))
 (pss_one (ps_ret pe_bl))
 pss_nil)
 (pss_one (ps_if (PW.pt (pw_and (pt_cmpR (op_neD hu64) (pv 12) pe_str (nomark _)) (pw_and1 (pt_cmpR (op_neD hu64) (pe_caught (k := 10) Cg (by rfl) TB rfl hmT huT hr (lamS_by (show lamSB (defScope s_law) _ = true by decide +kernel)) rfl (fun _ _ _ _ _ => rfl) (fun A outer s H E f c' hr2 => pe_mX (W := fun cls d _ H' => E cls d H') (E := E) X_do_all (takes_of rfl rfl rfl rfl) (fun _ _ _ _ h => h) hr2 (by decide) (pv 5) (pa_cons (pe_callTy (call_tupQ (K := K) rfl) (by rfl) T.n_tuple (by decide +kernel) (pa_cons (pv 11) pa_nil)) pa_nil))) (pv 12) (nomark _)))))
 (pss_one (ps_ret pe_bl))
 pss_nil))))))))))
 (pss_cons (ps_set (i := 13) sc_law.nd rfl (.inr rfl) (pe_cal C__law_pick (by decide) hr (by rfl) (pa_cons (pv 1) (pa_cons (pe_lst (pa_cons pe_non (pa_cons pe_int (pa_cons pe_str (pa_cons pe_dnewK (pa_cons pe_bl pa_nil)))))) pa_nil))))
 (pss_one (ps_if (PW.pt (pw_or (pt_cmpR (op_neD hu64) (pe_caught (k := 10) Cg (by rfl) TB rfl hmT huT hr (lamS_by (show lamSB (defScope s_law) _ = true by decide +kernel)) rfl (fun _ _ _ _ _ => rfl) (fun A outer s H E f c' hr2 => pe_mX (W := fun cls d _ H' => E cls d H') (E := E) X_do_all (takes_of rfl rfl rfl rfl) (fun _ _ _ _ h => h) hr2 (by decide) (pv 5) (pa_cons (pv 13) pa_nil))) pe_int (nomark _)) (pw_or1 (pt_cmpR (op_neD hu64) (pe_tup (pa_cons (pe_propC R_state LR.cl (by decide) hr (pv 5) rfl) (pa_cons (pe_callB (call_reprT hg hr) (by rfl) T.n_repr (by decide +kernel) (pa_cons (C8.pe_mt0 M_truths hr (by decide) (pv 5)) pa_nil)) pa_nil))) (pv 7) (nomark _)))))
 (pss_one (ps_ret pe_bl))
 pss_nil))))))))))
 (pss_one (ps_ret pe_bl)))), ?_⟩
    refine ⟨.ref a, rfl, a, ns, rfl, hA, hl, fun H1 d L1 Cc D1 kp1 nd nL nC => ?_⟩
    obtain ⟨n, en, hn18⟩ : ∃ n : Nat, (4 + if (14 : Int) < ((ns.map V.int).length : Int) then (14 : Int) else ((ns.map V.int).length : Int)) = (n : Int) ∧ n ≤ 18 := ⟨4 + min ns.length 14, by rw [List.length_map]; split <;> omega, by omega⟩
    have hA1 : SqL K H1 a (ns.map V.int) := by
      rcases hA with (h | ⟨o, h⟩) | h
      · exact .inl (.inl (kp1 _ _ h))
      · exact .inl (.inr ⟨o, kp1 _ _ h⟩)
      · exact .inr h
    refine ⟨.ref a, rfl, a, _, rfl, .inl hA1, _, _, rfl, 4, _, rfl, rfl, n, by show [V.int (4 + _)] = _; rw [en], by omega, by omega, for_it (walk_range (lo := 0) (n := n)) (fun i σ H2 => ∃ y2 y3 y4 y5 y6 y7 y8 y9 y10 y11 y12 y13 y14, σ = [some (.ref a), some (.ref d), y2, y3, y4, y5, y6, y7, y8, y9, y10, y11, y12, y13, y14] ∧ Dr H2 d L1 Cc ∧ TabsN (TTo TT) H2)
      ⟨_, _, _, _, _, _, _, _, _, _, _, _, _, rfl, D1, hT.ext kp1⟩ (fun i σ H2 hi p => trivial) (fun i x σ H2 H3 hi p y => ?_) (fun σ H2 p => ?_)⟩
    · obtain ⟨y2, y3, y4, y5, y6, y7, y8, y9, y10, y11, y12, y13, y14, rfl, D2, hT2⟩ := p
      obtain ⟨rfl, rfl⟩ := y
      refine gName_of ?_
      dsimp only
      refine ⟨.ref d, rfl, d, L1, Cc, 5, 5, 3, rfl, D2, by decide, by decide, by decide, by decide, by decide, fun H5 m ps cs gs tp D5 k5 nm hM ok gl wo => ?_⟩
      have hT5 := kp_tabs D2 k5 hT2
      refine ⟨.ref d, rfl, .ref m, rfl, d, L1, Cc, m, ps, cs, gs, tp, 8, rfl, D5, hM, ok, by decide, fun H6 r xs es D6 k6 hr6 hev6 row hle => ?_⟩
      have hT6 := kp_tabs D5 k6 hT5
      have hM6 := hM.kp D5 k6
      -- run
      refine ⟨.ref m, rfl, m, ps, cs, gs, tp, rfl, hM6.mx, ok, hT6, fun H7 pl sm7 npl hPl => fun x dx nx ndx nex => ?_⟩
      have s8 : Same H7 (upd (upd H7 dx (.own x)) x (.ins CR dx [])) := fun b o e => by
        rw [upd_ne (ne_of_none e nx), upd_ne (ne_of_none e ndx)]
        exact e
      refine ⟨x, dx, pl, ps, gs, cs, tp, rfl, upd_same, hPl.sm (Same.sm (T := TTo TT) s8), ok, (sm7.tb hT6).ext s8, fun H8 x8 hR8 => ⟨rfl, ?_⟩⟩
      have sm78 : Sm (TTo TT) H7 H8 := ⟨fun b o e n => x8.kp b o (s8 _ _ e) n (ne_of_none e nx), fun b e => s8.free (x8.nn b e), fun t => x8.tb (t.ext s8)⟩
      have sm68 := sm7.trans sm78
      have D8 := D6.sm sm68
      have hM8 := hM6.sm sm68
      have hT8 := sm68.tb hT6
      have kt68 := sm68.kt (K := K)
      have hr8 := kt68 _ _ hr6
      have hev8 := Paired.imp2 (fun _ _ r => PartAt.kt kt68 r) hev6
      -- led
      refine ⟨.ref m, rfl, .ref r, rfl, d, L1, Cc, m, r, xs, es, ps, cs, gs, tp, rfl, D8, hM8, ok, hr8, hev8, row, fun H9 ww g u sA c gone sn B9 => ⟨by show 2 ≤ sizeLine; decide, fun tt ntt => ?_⟩⟩
      have s10 : Same H9 (upd H9 tt (.tup [.ref x, .ref ww])) := Same.new ntt
      have s810 := B9.sm.trans s10
      have hR10 := hR8.sm (Same.sm (T := TTo TT) s810)
      have D10 := D8.same s810
      have N1 := D8.neL B9.nw
      have N2 := D8.neL B9.nu
      have N3 := D8.neL B9.ns
      have N4 := D8.neL B9.ng
      have LB10 : LB K (upd H9 tt (.tup [.ref x, .ref ww])) d L1 Cc m ww g u sA r xs es c gone sn ps cs gs tp (runSt ps gs cs (st0 gs) es) :=
        ⟨D10, hM8.sm (Same.sm (T := TTo TT) s810), B9.mw.kw (Same.kw s10) B9.W, B9.W.same s10, Same.sqt s810 hr8, Paired.imp2 (fun _ _ r => PartAt.kt (Same.kt s810) r) hev8, N1.2.2, N2.2.2, N3.2.2, N4.1⟩
      have hT10 := hT8.ext s810
      refine ⟨tt, _, rfl, .of upd_same, rfl, .ref x, _, rfl, .ref ww, [], rfl, rfl, ?_⟩
      generalize upd H9 tt (.tup [.ref x, .ref ww]) = H10 at s10 s810 hR10 D10 LB10 hT10
      -- run.do_all(row)
      have si0 := si_first ok
      obtain ⟨dx1, a1, v1, hx1, ho1, hst1⟩ := hR10.ex
      refine ⟨.ref x, rfl, x, dx1, _, rfl, hx1, rnF_no (by decide +kernel) (by decide +kernel) (by decide +kernel), .ref r, rfl, x, r, xs, es, ps, gs, cs, tp, st0 gs, rfl, hR10, si0.ok, si0.fok, .inr LB10.hr, LB10.ev, row, by omega, hT10, fun H11 p11 acc11 sx11 hR11 np11 hp11 hacc11 => ?_⟩
      have LB11 := LB10.exi (exi_smx sx11 hx1)
      have hT11 := sx11.tb hT10
      have hd0 : HdEq ps gs (runSt ps gs cs (st0 gs) es) := hd_run si0 (held_first ok) row
      have LF0 : LF ps gs cs tp gone sn c (runSt ps gs cs (st0 gs) es) := ⟨B9.R, B9.si, hd0⟩
      clear hR10 hx1 ho1 hst1 LB10
      generalize est : runSt ps gs cs (st0 gs) es = st at *
      have okr := LF0.si.ok
      have fok := LF0.si.fok
      -- shown
      obtain ⟨dx2, a2, v2, hx2, ho2, hst2⟩ := hR11.ex
      refine ⟨.ref x, rfl, x, dx2, _, rfl, hx2, x, dx2, _, _, rfl, hx2, rnF_s, .ref x, rfl, x, dx2, _, rfl, hx2, rnF_no (by decide +kernel) (by decide +kernel) (by decide +kernel), x, ps, gs, cs, tp, st, rfl, hR11, okr, hT11, fun H12 d12 ys12 sm12 nd12 hp12 hs12 hd12 => ?_⟩
      obtain ⟨fits, vct⟩ := tr_facts okr.pl hp12
      refine ⟨d12, _, rfl, hd12, fits, by show 2 ≤ sizeLine; decide, fun sh nsh => ?_⟩
      have ssh : Same H12 (upd H12 sh (.tup [v2, .str (trD (ys12.map fun n => (n, lookT (trIn ps gs st) n))).shown])) := Same.new nsh
      have sm13 : Sm (TTo TT) H11 (upd H12 sh (.tup [v2, .str (trD (ys12.map fun n => (n, lookT (trIn ps gs st) n))).shown])) := sm12.trans (Same.sm ssh)
      have LB13 := LB11.exi (exi_sm sm13)
      have hR13 := hR11.sm sm13
      have hT13 := sm13.tb hT11
      obtain ⟨txt, etxt⟩ : ∃ txt, txt = (trD (ys12.map fun n => (n, lookT (trIn ps gs st) n))).shown := ⟨_, rfl⟩
      rw [← etxt] at vct ssh sm13 LB13 hR13 hT13 ⊢
      have DS : ∀ H', KT K (upd H12 sh (.tup [v2, .str txt])) H' → Dp K H' (.ref sh) (.tuple [stD st, .str txt]) := fun H' e => by
        refine .tup (e _ _ (.of upd_same)) (.cons ?_ (.cons (.str _) .nil))
        exact StAt.dpx hst2 ((sm13.kt (K := K)).trans e)
      generalize upd H12 sh (.tup [v2, .str txt]) = H13 at ssh sm13 LB13 hR13 hT13 DS
      -- the laps
      refine ⟨5, rfl, by omega, by omega, for_it (walk_range (lo := 0) (n := 5)) (fun j σ Hx => ∃ y8 y9 y10 y11 y12 y13 y14, σ = [some (.ref a), some (.ref d), some (.int (0 + (i : Int))), some (.ref m), some (.ref r), some (.ref x), some (.ref ww), some (.ref sh), y8, y9, y10, y11, y12, y13, y14] ∧ LB K Hx d L1 Cc m ww g u sA r xs es c gone sn ps cs gs tp st ∧ RnObj K C CR Hx x ps gs cs tp st ∧ TabsN (TTo TT) Hx ∧ ∀ H', KT K Hx H' → Dp K H' (.ref sh) (.tuple [stD st, .str txt]))
        ⟨_, _, _, _, _, _, _, rfl, LB13, hR13, hT13, DS⟩ (fun j σ Hx hj p => trivial) (fun j xj σ Hx Hy hj p yy => ?_) (fun σ Hx p => ?_)⟩
      · obtain ⟨y8, y9, y10, y11, y12, y13, y14, rfl, B, hR, hT', DS⟩ := p
        obtain ⟨rfl, rfl⟩ := yy
        refine gName_of ?_
        dsimp only
        have gl8 := LF0.gl
        have ul8 := okr.ul
        have pl8 := ok.parts.hi
        obtain ⟨dls0, dcs0, dr0, dt0, dm0, DD0⟩ := B.D
        -- one
        refine ⟨.ref d, rfl, .ref m, rfl, .ref ww, rfl, d, L1, Cc, Cc, _, m, ww, ps, cs, gs, tp, g, u, sA, c, gone, _, sn, rfl, DD0.hC, DD0.ne.symm, B.D, B.mw, B.W, B.n1, B.n2, B.n3, B.n4, B.md, B.mL, ok, by omega, by omega, LF0.words, fun Ha v o tp2 Da ka hve => ?_⟩
        have Ba := B.kp ka Da
        have hRa := hR.kpD B.D ka
        have hTa := kp_tabs B.D ka hT'
        have DSa : ∀ H', KT K Ha H' → Dp K H' (.ref sh) (.tuple [stD st, .str txt]) := fun H' k => DS H' ((ka.kt B.D).trans k)
        clear DS B hR hT'
        refine gName_of ?_
        dsimp only
        -- is_good
        obtain ⟨bg, hbg⟩ : ∃ bg : Bool, (bg = true ↔ ∃ e, o = some e ∧ e ∈ eventsIn ps st.1 st.2.1) := by classical exact ⟨decide (∃ e, o = some e ∧ e ∈ eventsIn ps st.1 st.2.1), decide_eq_true_iff⟩
        have hbad : bg = false → BadEv (eventsIn ps st.1 st.2.1) o := fun hz => by
          cases o with
          | none => exact True.intro
          | some e => exact fun hin => by rw [hbg.mpr ⟨e, rfl, hin⟩] at hz; cases hz
        have shE : SeqAt.shaped (.list ((eventsIn ps st.1 st.2.1).map partD)) = true := shaped_list fun d hd => by
          obtain ⟨e2, he2, rfl⟩ := List.mem_map.mp hd
          exact (evSh okr.pl.parts fok (evIn he2)).up (by decide)
        show tAndV _ _ _ _ _
        refine te_of (fun v' H' => v' = .bl bg ∧ Same Ha H') (fun v' Hb p => ?_) (fun fin => ?_)
        rotate_left
        · cases tp2 with
          | true =>
            obtain ⟨fp, hof, _, t, ys, rfl, hs, hnn⟩ := hve.ex
            refine ⟨.ref t, rfl, _, _, .type "tuple", .type "tuple", true, rfl, .ty _, ty_tup (hs Ha fun _ _ => rfl), kit_ty (by decide +kernel), true, rfl, iteT ?_⟩
            refine ⟨.ref t, rfl, .ref m, rfl, .ref ww, rfl, m, ww, ps, cs, gs, tp, g, u, sA, c, gone, _, sn, rfl, Ba.mw, Ba.W, by omega, by omega, by omega, fun H4 p xs4 s4 np hp hxs => ?_⟩
            rw [LF0.R.can LF0.si] at hxs
            cases o with
            | some e =>
              refine ⟨partD e, _, (hof.sm (Same.sm (T := []) s4)).part.dp, .lst (.of hp) (dp_pairs hxs), hve.sh e rfl, shE, fin _ _ ⟨?_, s4⟩⟩
              congr 1
              cases hz : bg with
              | true =>
                obtain ⟨e2, h1, h2⟩ := hbg.mp hz
                cases h1
                exact any_part h2
              | false => exact part_any (hbad hz)
            | none =>
              have hz : bg = false := by
                cases hz : bg with
                | false => rfl
                | true =>
                  obtain ⟨e2, h1, h2⟩ := hbg.mp hz
                  cases h1
              rcases (hof.sm (Same.sm (T := []) s4)).is with ⟨d1, h1, h2⟩ | ⟨b, kvs, h1, h2, h3⟩
              · exact ⟨d1, _, h2 H4 fun _ _ => rfl, .lst (.of hp) (dp_pairs hxs), h1.1, shE, fin _ _ ⟨by rw [noEv_any h1, hz], s4⟩⟩
              · exfalso
                obtain ⟨_, l, hl⟩ := hnn rfl
                cases h1
                rw [s4 _ _ hl] at h3
                cases h3
          | false =>
            have hz : bg = false := by
              cases hz : bg with
              | false => rfl
              | true =>
                obtain ⟨e2, h1, h2⟩ := hbg.mp hz
                rw [hve.no rfl] at h1
                cases h1
            obtain ⟨fp, hof, _, ht⟩ := hve.ex
            have no : ∀ {ty : Value} {Q' : VK}, TyX K Ha v ty → PySem.W.kitOne K ty (.type "tuple") = some false → Q' (.bl false) Ha → tAndV (tCB (rIsi K) (tCons (tVar 9) (tCons (tC (V.ty "tuple")) tNil))) (tOp (rInD K) (tVar 9) (tCall (spCan K) [] E0 (tCons (tVar 3) (tCons (tVar 6) tNil)))) [some (.ref a), some (.ref d), some (.int (0 + (i : Int))), some (.ref m), some (.ref r), some (.ref x), some (.ref ww), some (.ref sh), some (.int (0 + (j : Int))), some v, y10, y11, y12, y13, y14] Ha Q' := fun {ty Q'} h1 h2 hq =>
              ⟨v, rfl, _, _, ty, .type "tuple", false, rfl, .ty _, h1, h2, false, rfl, iteF hq⟩
            rcases ht with h | ⟨b, h⟩ | ⟨z, h⟩ | ⟨z, h⟩ | ⟨b, kvs, h, _, z⟩ | ⟨b, kvs, h, _, z⟩
            · exact no (by rw [h]; exact .base .non) (kit_ty (by decide +kernel)) (fin _ _ ⟨by rw [hz], Same.refl _⟩)
            · exact no (by rw [h]; exact .base (.bl b)) (kit_ty (by decide +kernel)) (fin _ _ ⟨by rw [hz], Same.refl _⟩)
            · exact no (by rw [h]; exact .base (.int z)) (kit_ty (by decide +kernel)) (fin _ _ ⟨by rw [hz], Same.refl _⟩)
            · exact no (by rw [h]; exact .base (.str z)) (kit_ty (by decide +kernel)) (fin _ _ ⟨by rw [hz], Same.refl _⟩)
            · exact no (by rw [h]; exact .base (.dK z)) (kit_ty (by decide +kernel)) (fin _ _ ⟨by rw [hz], Same.refl _⟩)
            · exact no (by rw [h]; exact .base (.lst z)) (kit_ty (by decide +kernel)) (fin _ _ ⟨by rw [hz], Same.refl _⟩)
        obtain ⟨rfl, sb⟩ := p
        have hRb := hRa.sm (Same.sm (T := TTo TT) sb)
        have hTb := hTa.ext sb
        have Bb := Ba.exi (exi_sm (Same.sm (T := TTo TT) sb))
        have hveb := hve.same sb
        refine gName_of ?_
        dsimp only
        -- run.copy().do(one)
        show tLam _ _ _ _ _ _
        refine te_of (fun v' H' => v' = (if bg = true then V.str "done" else .int 0) ∧ ExtN Hb H' ∧ TabsN (TTo TT) H') (fun v' Hc p => ?_) (fun fin => ?_)
        rotate_left
        · refine ⟨tabs_iff.mp hTb, fun Hl el Tl => ?_⟩
          have hRl := hRb.ex' el
          have hTl : TabsN (TTo TT) Hl := tabs_iff.mpr Tl
          have hvel := hveb.exi (exi_n el)
          obtain ⟨dxl, al, vl, hxl, hol, hstl⟩ := hRl.ex
          refine ⟨.ref x, rfl, x, dxl, _, rfl, hxl, rnF_no (by decide +kernel) (by decide +kernel) (by decide +kernel), x, ps, gs, cs, tp, st, rfl, hRl, okr, hTl, fun Hm y smm ny hY => ?_⟩
          obtain ⟨dy, ay, vy, hy, hoy, hsty⟩ := hY.ex
          have hvem := hvel.exi (exi_sm smm)
          refine ⟨y, dy, _, rfl, hy, rnF_no (by decide +kernel) (by decide +kernel) (by decide +kernel), v, rfl, y, v, o, ps, gs, cs, tp, st, rfl, hY, okr, fok, smm.tb hTl, hvem.sh, (let ⟨fp, q1, _⟩ := hvem.ex; ⟨fp, q1⟩), ?_⟩
          rcases (show bg = false ∨ bg = true by cases bg <;> simp) with hz | hz
          · refine .inl ⟨hbad hz, fun H' dd sm n0 e => ⟨rfl, dd, 0, rfl, e, fin _ _ ⟨by rw [hz]; rfl, ?_, sm.tb (smm.tb hTl)⟩⟩⟩
            exact (el.trans smm.kp).trans sm.kp
          · obtain ⟨e, rfl, hin⟩ := hbg.mp hz
            exact .inr ⟨e, rfl, hin, fun H' v' sx hR' hv' => ⟨_, rfl, fin _ _ ⟨by rw [hz]; rfl, ex_smx el ny smm sx, sx.tb (smm.tb hTl)⟩⟩⟩
        obtain ⟨rfl, ebc, hTc⟩ := p
        have hRc := hRb.ex' ebc
        have Bc := Bb.exi (exi_n ebc)
        have hvec := hveb.exi (exi_n ebc)
        have ktac : KT K Ha Hc := (Same.kt sb).trans (iT (exi_n ebc))
        show tIf _ _ _ _ _ _
        refine te_of (fun v' H' => v' = (if bg = true then V.str "done" else .int 0) ∧ H' = Hc) (fun v' H' p => ?_) (fun fin => ?_)
        rotate_left
        · exact ⟨.bl bg, rfl, bg, rfl, ite2 (fun e => fin _ _ ⟨by rw [if_pos e], rfl⟩) (fun e => fin _ _ ⟨by simp [e], rfl⟩)⟩
        obtain ⟨rfl, rfl⟩ := p
        have okd : StrOk "done" := by decide +kernel
        have neD : ∀ {Hz : Hp} {Q' : VK}, Q' (.bl false) Hz → rNeD K (if bg = true then V.str "done" else .int 0) (if bg = true then V.str "done" else .int 0) Hz Q' := fun {Hz Q'} hq => by
          cases bg with
          | true => exact ⟨.str "done", .str "done", .str _, .str _, (sh_str okd).shaped (by decide), (sh_str okd).shaped (by decide), by simpa [PyData.eqv] using hq⟩
          | false => exact ⟨.int 0, .int 0, .int _, .int _, rfl, rfl, by simpa [PyData.eqv] using hq⟩
        refine neD ⟨false, rfl, iteF (tNext_of ?_)⟩
        dsimp only
        -- run.do(event=one)
        refine seq_of (fun σ' H' => σ' = [some (.ref a), some (.ref d), some (.int (0 + (i : Int))), some (.ref m), some (.ref r), some (.ref x), some (.ref ww), some (.ref sh), some (.int (0 + (j : Int))), some v, some (.bl bg), y11, y12, y13, y14] ∧ ExtN H' H' ∧ LB K H' d L1 Cc m ww g u sA r xs es c gone sn ps cs gs tp st ∧ RnObj K C CR H' x ps gs cs tp st ∧ TabsN (TTo TT) H' ∧ KT K Ha H') (fun σ' Hd p => ?_) (fun fin => ?_)
        rotate_left
        · refine ⟨.bl bg, rfl, bg, rfl, ?_⟩
          rcases (show bg = false ∨ bg = true by cases bg <;> simp) with hz | hz
          · rw [hz]
            refine iteT ?_
            refine ⟨tabs_iff.mp hTc, fun Hl el Tl => ?_⟩
            have hRl := hRc.ex' el
            have hTl : TabsN (TTo TT) Hl := tabs_iff.mpr Tl
            have hvel := hvec.exi (exi_n el)
            obtain ⟨dxl, al, vl, hxl, hol, hstl⟩ := hRl.ex
            refine ⟨.ref x, rfl, x, dxl, _, rfl, hxl, rnF_no (by decide +kernel) (by decide +kernel) (by decide +kernel), v, rfl, x, v, o, ps, gs, cs, tp, st, rfl, hRl, okr, fok, hTl, hvel.sh, (let ⟨fp, q1, _⟩ := hvel.ex; ⟨fp, q1⟩), .inl ⟨hbad hz, fun H' dd sm n0 e => ⟨rfl, dd, 0, rfl, e, ?_⟩⟩⟩
            refine ⟨.int 0, .int 0, .int _, .int _, rfl, rfl, false, by simp [PyData.eqv], iteF ?_⟩
            exact fin _ _ ⟨by rw [hz]; rfl, fun _ _ h _ => h, (Bc.exi (exi_n el)).exi (exi_sm sm), hRl.sm sm, sm.tb hTl, ktac.trans ((iT (exi_n el)).trans sm.kt)⟩
          · rw [hz]
            refine iteF ?_
            exact iteF (fin _ _ ⟨by rw [hz]; rfl, fun _ _ h _ => h, Bc, hRc, hTc, ktac⟩)
        obtain ⟨rfl, _, Bd, hRd, hTd, ktd⟩ := p
        -- some
        obtain ⟨dls, dcs, dr, dt, dm, DD⟩ := Bd.D
        refine ⟨.ref d, rfl, d, L1, Cc, 4, rfl, Bd.D, by decide, by decide, fun He k4 De ke k40 k41 => ⟨k4, rfl, by omega, by omega, fun D0 nD0 => ?_⟩⟩
        have Be := Bd.kp ke De
        have hRe := hRd.kpD Bd.D ke
        have hTe := kp_tabs Bd.D ke hTd
        have kte := ktd.trans (ke.kt Bd.D)
        have ND0 := De.neL nD0
        refine lc_it (walk_range (lo := 0) (n := k4.toNat)) (fun q Hq => ∃ acc os, Hq D0 = some (.lst acc) ∧ VEs K d L1 D0 Hq acc os ∧ os.length = q ∧ Dr Hq d L1 Cc ∧ Kp d L1 He Hq) ⟨[], [], upd_same, .nil, rfl, De.new nD0, Kp.new nD0⟩ (fun _ _ _ _ => trivial) (fun q xq Hq Hq2 hq p yq => ?_) (fun Hf p => ?_)
        · obtain ⟨acc, os, hD0, hvs, hlen, Dq, kq⟩ := p
          obtain ⟨rfl, rfl⟩ := yq
          have Bq := Be.kp kq Dq
          refine ⟨rfl, .ref d, rfl, .ref m, rfl, .ref ww, rfl, d, L1, Cc, D0, acc, m, ww, ps, cs, gs, tp, g, u, sA, c, gone, _, sn, rfl, hD0, ND0.1, Bq.D, Bq.mw, Bq.W, Bq.n1, Bq.n2, Bq.n3, Bq.n4, Bq.md, Bq.mL, ok, by omega, by omega, LF0.words, fun Hg v o2 t2 Dg kg hv2 => ?_⟩
          have hDg := kg.lst Dq ND0.1 hD0
          have lacc : acc.length ≤ 1000 := by
            have := Paired.length hvs
            omega
          refine ⟨acc, hDg, small1000 lacc, acc ++ [v], os ++ [o2], upd_same, ?_, by rw [List.length_append, hlen]; rfl, Dg.lst hDg ND0.1 ND0.2.1 _, (kq.trans kg).at nD0⟩
          exact Paired.app ⟨t2, hv2.updX⟩ (Paired.imp2 (fun _ _ ⟨t, r⟩ => ⟨t, (r.kp kg).updX⟩) hvs)
        obtain ⟨acc, os, hD0, hvs, hlen, Df, kf⟩ := p
        have Bf := Be.kp kf Df
        have hRf := hRe.kpD De kf
        have hTf := kp_tabs De kf hTe
        have ktf := kte.trans (kf.kt De)
        have hos : os.length ≤ 4 := by omega
        -- due
        obtain ⟨es2, bad, hcut⟩ := cut_ex ps gs cs os st
        refine ⟨.ref m, rfl, .ref r, rfl, .ref D0, rfl, d, L1, Cc, D0, m, r, xs, es, D0, acc, os, es2, bad, ps, cs, gs, tp, rfl, Df, Bf.M, ok, Bf.hr, Bf.ev, row, hD0, hvs, by rw [est]; exact hcut, by omega, fun Hg sg => ?_⟩
        have Bg := Bf.exi (exi_sm (Same.sm (T := TTo TT) sg))
        have hRg := hRf.sm (Same.sm (T := TTo TT) sg)
        have hTg := hTf.ext sg
        have hvsg := hvs.same sg
        have hD0g := sg _ _ hD0
        have ktg := ktf.trans (Same.kt sg)
        obtain ⟨due, edue⟩ : ∃ due, due = (if bad = true then V.int (es2.length : Int) else .str "done") := ⟨_, rfl⟩
        rw [← edue]
        refine gName_of ?_
        dsimp only
        have neD2 : ∀ {Hz : Hp} {Q' : VK}, Q' (.bl false) Hz → rNeD K due due Hz Q' := fun {Hz Q'} hq => by
          rw [edue]
          cases bad with
          | true => exact ⟨.int _, .int _, .int _, .int _, rfl, rfl, by simpa [PyData.eqv] using hq⟩
          | false => exact ⟨.str "done", .str "done", .str _, .str _, (sh_str okd).shaped (by decide), (sh_str okd).shaped (by decide), by simpa [PyData.eqv] using hq⟩
        -- run.copy().do_all(some)
        show tLam _ _ _ _ _ _
        refine te_of (fun v' H' => v' = due ∧ ExtN Hg H' ∧ TabsN (TTo TT) H') (fun v' Hh p => ?_) (fun fin => ?_)
        rotate_left
        · refine ⟨tabs_iff.mp hTg, fun Hl el Tl => ?_⟩
          have hRl := hRg.ex' el
          have hTl : TabsN (TTo TT) Hl := tabs_iff.mpr Tl
          have hvl : VEs K d L1 D0 Hl acc os := Paired.imp2 (fun _ _ ⟨t, q⟩ => ⟨t, q.exi (exi_n el)⟩) hvsg
          obtain ⟨dxl, al, vl, hxl, hol, hstl⟩ := hRl.ex
          refine ⟨.ref x, rfl, x, dxl, _, rfl, hxl, rnF_no (by decide +kernel) (by decide +kernel) (by decide +kernel), x, ps, gs, cs, tp, st, rfl, hRl, okr, hTl, fun Hm y smm ny hY => ?_⟩
          obtain ⟨dy, ay, vy, hy, hoy, hsty⟩ := hY.ex
          have hvm : VEs K d L1 D0 Hm acc os := Paired.imp2 (fun _ _ ⟨t, q⟩ => ⟨t, q.exi (exi_sm smm)⟩) hvl
          refine ⟨y, dy, _, rfl, hy, rnF_no (by decide +kernel) (by decide +kernel) (by decide +kernel), .ref D0, rfl, y, .ref D0, ps, gs, cs, tp, st, rfl, hY, okr, fok, smm.tb hTl, .inr ⟨D0, acc, os, es2, bad, rfl, .inl (.of (iL (exi_sm smm) (iL (exi_n el) hD0g))), VE.evs hvm, hcut, by omega, fun hb => fun H' dd sm n0 e => ⟨rfl, dd, _, rfl, e, fin _ _ ⟨by rw [edue, if_pos hb], (el.trans smm.kp).trans sm.kp, sm.tb (smm.tb hTl)⟩⟩, fun hb => fun H' p acc2 sx hR' np hp hacc => ⟨_, rfl, fin _ _ ⟨by rw [edue, hb]; rfl, ex_smx el ny smm sx, sx.tb (smm.tb hTl)⟩⟩⟩⟩
        obtain ⟨rfl, egh, hTh⟩ := p
        have Bh := Bg.exi (exi_n egh)
        have hRh := hRg.ex' egh
        have hvh : VEs K d L1 D0 Hh acc os := Paired.imp2 (fun _ _ ⟨t, q⟩ => ⟨t, q.exi (exi_n egh)⟩) hvsg
        have hD0h := iL (exi_n egh) hD0g
        have kth := ktg.trans (iT (exi_n egh))
        refine ⟨_, rfl, neD2 ⟨false, rfl, iteF (tNext_of ?_)⟩⟩
        -- run.do_all(tuple(some))
        cases hb : bad with
        | false =>
          have ed : v' = .str "done" := by rw [edue, hb]; rfl
          refine ⟨v', rfl, .str "done", .str "done", by rw [ed]; exact .str _, .str _, (sh_str okd).shaped (by decide), (sh_str okd).shaped (by decide), false, by simp [PyData.eqv], iteF (iteF (tNext_of ?_))⟩
          exact ⟨_, _, _, _, _, _, _, rfl, Bh, hRh, hTh, fun H' k => DSa H' (kth.trans k)⟩
        | true =>
          have ed : v' = .int (es2.length : Int) := by rw [edue, hb]; rfl
          refine ⟨v', rfl, .int _, .str "done", by rw [ed]; exact .int _, .str _, rfl, (sh_str okd).shaped (by decide), true, by simp [PyData.eqv], iteT ?_⟩
          refine ⟨tabs_iff.mp hTh, fun Hl el Tl => ?_⟩
          have hRl := hRh.ex' el
          have hTl : TabsN (TTo TT) Hl := tabs_iff.mpr Tl
          have hvl : VEs K d L1 D0 Hl acc os := Paired.imp2 (fun _ _ ⟨t, q⟩ => ⟨t, q.exi (exi_n el)⟩) hvh
          obtain ⟨dxl, al, vl, hxl, hol, hstl⟩ := hRl.ex
          refine ⟨.ref x, rfl, x, dxl, _, rfl, hxl, rnF_no (by decide +kernel) (by decide +kernel) (by decide +kernel), .ref D0, rfl, D0, acc, rfl, .inl (.of (iL (exi_n el) hD0h)), fun t1 Hm sm4 ht1 => ?_⟩
          have hvm := hvl.same sm4
          have hRm := hRl.sm (Same.sm (T := TTo TT) sm4)
          have hTm := hTl.ext sm4
          refine ⟨x, .ref t1, ps, gs, cs, tp, st, rfl, hRm, okr, fok, hTm, .inr ⟨t1, acc, os, es2, bad, rfl, .inr ht1, VE.evs hvm, hcut, by omega, fun _ => fun H' dd sm n0 e => ⟨rfl, dd, _, rfl, e, ?_⟩, fun hz => by rw [hb] at hz; cases hz⟩⟩
          refine ⟨v', rfl, .int _, .int _, .int _, by rw [ed]; exact .int _, rfl, rfl, false, by simp [PyData.eqv], iteF (tNext_of ?_)⟩
          have ex : ExI Hh H' := (exi_n el).trans ((exi_sm (Same.sm (T := TTo TT) sm4)).trans (exi_sm sm))
          exact ⟨_, _, _, _, _, _, _, rfl, Bh.exi ex, hRm.sm sm, sm.tb hTm, fun H2 k => DSa H2 (kth.trans ((iT ex).trans k))⟩
      · obtain ⟨y8, y9, y10, y11, y12, y13, y14, rfl, B, hR, hT', DS⟩ := p
        obtain ⟨dls0, dcs0, dr0, dt0, dm0, DD0⟩ := B.D
        -- odd
        refine ⟨.ref d, rfl, fun dd ndd => ⟨by show 5 ≤ sizeLine; decide, fun l nl => ?_⟩⟩
        have s1 : Same Hx (upd Hx dd (.dK [])) := Same.new ndd
        have hdd : (upd Hx dd (.dK [])) dd = some (.dK []) := upd_same
        have Ndd := B.D.neL ndd
        generalize upd Hx dd (.dK []) = Ha at s1 hdd nl ⊢
        have s2 : Same Ha (upd Ha l (.lst [.non, .int 5, .str "ab", .ref dd, .bl true])) := Same.new nl
        have hl2 : (upd Ha l (.lst [.non, .int 5, .str "ab", .ref dd, .bl true])) l = some (.lst [.non, .int 5, .str "ab", .ref dd, .bl true]) := upd_same
        have Nl := (B.D.same s1).neL nl
        generalize upd Ha l (.lst [.non, .int 5, .str "ab", .ref dd, .bl true]) = Hb at s2 hl2 ⊢
        have s12 := s1.trans s2
        have Bb := B.exi (exi_sm (Same.sm (T := TTo TT) s12))
        have hRb := hR.sm (Same.sm (T := TTo TT) s12)
        have hTb := hT'.ext s12
        have hddb := s2 _ _ hdd
        refine ⟨d, L1, Cc, .ref l, rfl, Bb.D, .inl ⟨l, _, rfl, Nl.1, .inl (.of hl2), by simp, by simp, fun Hc v Dc kc hv => ?_⟩⟩
        have Bc := Bb.kp kc Dc
        have hRc := hRb.kpD Bb.D kc
        have hTc := kp_tabs Bb.D kc hTb
        have DSc : ∀ H', KT K Hc H' → Dp K H' (.ref sh) (.tuple [stD st, .str txt]) := fun H' k => DS H' ((Same.kt s12).trans ((kc.kt Bb.D).trans k))
        have ns : NotSeq K Hc v := by
          simp only [List.mem_cons, List.not_mem_nil, or_false] at hv
          rcases hv with h | h | h | h | h
          · exact ⟨.inl h⟩
          · exact ⟨.inr (.inr (.inl ⟨_, h⟩))⟩
          · exact ⟨.inr (.inr (.inr (.inl ⟨_, h⟩)))⟩
          · exact ⟨.inr (.inr (.inr (.inr ⟨dd, [], h, kc _ _ hddb Ndd.2.2 Ndd.1⟩)))⟩
          · exact ⟨.inr (.inl ⟨_, h⟩)⟩
        refine gName_of ?_
        dsimp only
        refine ⟨tabs_iff.mp hTc, fun Hl el Tl => ?_⟩
        have hRl := hRc.ex' el
        have hTl : TabsN (TTo TT) Hl := tabs_iff.mpr Tl
        obtain ⟨dxl, al, vl, hxl, hol, hstl⟩ := hRl.ex
        have nsl : NotSeq K Hl v := by
          rcases ns.is with h | h | h | h | ⟨b, kvs, h1, h2⟩
          · exact ⟨.inl h⟩
          · exact ⟨.inr (.inl h)⟩
          · exact ⟨.inr (.inr (.inl h))⟩
          · exact ⟨.inr (.inr (.inr (.inl h)))⟩
          · exact ⟨.inr (.inr (.inr (.inr ⟨b, kvs, h1, iD (exi_n el) h2⟩)))⟩
        refine ⟨.ref x, rfl, x, dxl, _, rfl, hxl, rnF_no (by decide +kernel) (by decide +kernel) (by decide +kernel), v, rfl, x, v, ps, gs, cs, tp, st, rfl, hRl, LF0.si.ok, LF0.si.fok, hTl, .inl ⟨nsl, fun Hm ee sm n0 e => ⟨rfl, ee, 0, rfl, e, ?_⟩⟩⟩
        refine ⟨.int 0, .int 0, .int _, .int _, rfl, rfl, false, by simp [PyData.eqv], iteF ?_⟩
        have Bm := (Bc.exi (exi_n el)).exi (exi_sm sm)
        have hRm := hRl.sm sm
        have hTm := sm.tb hTl
        have ktm : KT K Hc Hm := (iT (exi_n el)).trans sm.kt
        obtain ⟨dxm, am, vm, hxm, hom, hstm⟩ := hRm.ex
        refine ⟨.ref x, rfl, x, dxm, _, rfl, hxm, x, dxm, _, _, rfl, hxm, rnF_s, .ref x, rfl, x, dxm, _, rfl, hxm, rnF_no (by decide +kernel) (by decide +kernel) (by decide +kernel), x, ps, gs, cs, tp, st, rfl, hRm, LF0.si.ok, hTm, fun Hn d5 ys5 smn nd5 hp5 hs5 hd5 => ?_⟩
        have eys : ys5 = ys12 := sorted_one (hp5.trans hp12.symm) hs5 hs12
        subst eys
        refine ⟨d5, _, rfl, hd5, (tr_facts LF0.si.ok.pl hp5).1, by show 2 ≤ sizeLine; decide, fun t nt => ?_⟩
        rw [← etxt]
        have st5 : Same Hn (upd Hn t (.tup [vm, .str txt])) := Same.new nt
        have ktn : KT K Hm (upd Hn t (.tup [vm, .str txt])) := smn.kt.trans (Same.kt st5)
        refine ⟨.ref sh, rfl, .tuple [stD st, .str txt], .tuple [stD st, .str txt], .tup (.of upd_same) (.cons (StAt.dpx hstm ktn) (.cons (.str _) .nil)), DSc _ (ktm.trans ktn), sh_two LF0.si LF0.hd vct, sh_two LF0.si LF0.hd vct, false, ?_, iteF (tNext_of ?_)⟩
        · rw [eqv_tup fun d hd => ?_]
          · rfl
          · simp only [List.mem_cons, List.not_mem_nil, or_false] at hd
            rcases hd with rfl | rfl
            · exact eqv_stD _
            · exact eqv_str1 _
        · exact ⟨_, _, _, _, _, _, _, _, _, _, _, _, _, rfl, (Bm.exi (exi_sm smn)).D.same st5, (smn.tb hTm).ext st5⟩
    · obtain ⟨_, _, _, _, _, _, _, _, _, _, _, _, _, rfl, D2, hT2⟩ := p
      exact q H2
end
end Kf

set_option Elab.async false
set_option linter.all false
set_option maxRecDepth 100000
set_option maxHeartbeats 2000000
namespace Kf
open PySem PySem.Spec PyProof.Rows L2 LamX NdefX TL
/-! ## the end: law is called where no guard stands -/
abbrev nilTab : Obj := ⟨.none, none, .fields #[], #[]⟩
/-- tracked at first: the script, if it is no object of the frame, and the tables -/
def hp0 (ts : List Addr) (a : Addr) (own : Option HO) : Hp := fun b => if b = a then own else if b ∈ ts then some (.tbl #[]) else none
section
variable {ts : List Addr} {a b : Addr} {own : Option HO}
theorem hp0_a : hp0 ts a own a = own := if_pos rfl
theorem hp0_t (h : b ∈ ts) (n : b ≠ a) : hp0 ts a own b = some (.tbl #[]) := (if_neg n).trans (if_pos h)
theorem hp0_at {u : HO} (h : hp0 ts a own b = some u) : (b = a ∧ own = some u) ∨ (b ≠ a ∧ b ∈ ts ∧ u = .tbl #[]) := by
  unfold hp0 at h
  split at h
  · rename_i e
    exact .inl ⟨e, h⟩
  · rename_i e
    split at h
    · rename_i m
      exact .inr ⟨e, m, (Option.some.inj h).symm⟩
    · cases h
theorem hp0_some (h : hp0 ts a own b ≠ none) : (b = a ∧ own ≠ none) ∨ (b ≠ a ∧ b ∈ ts) := by
  cases e : hp0 ts a own b with
  | none => exact absurd e h
  | some u =>
    rcases hp0_at e with ⟨e1, e2⟩ | ⟨e1, e2, _⟩
    · exact .inl ⟨e1, by rw [e2]; exact Option.some_ne_none u⟩
    · exact .inr ⟨e1, e2⟩
end
/-- what the law's proof gives to the end -/
def GiveG (l : PySem.W.OpenLaw) (w : World) (K : PySem.W.Frag) (k n : Nat) (x : Str) (mg : Str → Option Value) (fa : Addr) (h : Heap) : Prop :=
  ∃ (fd : FuncData) (ct : List (Addr × Addr)) (sp : Sp),
    (∀ q ∈ ct, PySem.W.CodeHd h q.1 q.2 ∧ h.get? q.2 = some { cls := .none, data := .fields #[] } ∧ K.lookup q.2 = none) ∧
    (∀ (st : Shared) (u : Value), BindsTo st fd ⟨[u], []⟩ [(x, u)]) ∧
    (∀ base : Heap, base.Ns mainGlobals mg → K.In base → (∀ q ∈ ct, TabB base mg q.1 q.2) → FnOkG l.prog w K mg base k fa fd [x] sp) ∧
    ∀ (H : Hp) (a : Addr) (ns : List Int), SqL K H a (ns.map V.int) → ns.length ≤ n → (∀ q ∈ ct, H q.2 = some (.tbl #[])) → sp [.ref a] H (fun v _ => v = .bl true) fun _ _ _ => False
theorem walkG {l : PySem.W.OpenLaw} {n k : Nat} {q : Program} {loose : List Str} {XP : (Str → Option Value) → Heap → Prop} {YP : World → Heap → Prop} {d : DefRec} {Kf : Params → PySem.W.Frag} {x : Str} (hdf : d.params.defaults = []) (hn : l.most = some n) (hn2 : n ≤ sizeLine) (hr : Room k callerA)
    (hY : ∀ (w : World) (h : Heap), YP w h → (Kf w.params).In h) (give : ∀ (w : World) (mg : Str → Option Value) (fa : Addr) (h : Heap), YP w h → h.Ns mainGlobals mg → mg d.name = some (.ref fa) → GiveG l w (Kf w.params) k n x mg fa h) :
    PySem.W.WalkO q loose XP YP l.row.toRowW d [] (fun f vs => PySem.call f vs) := by
  refine Att.attach_callB hn hdf fun w s₀ s₁ mg mb fa o pm cd doc a vs ns G Y ho hd hcd hmg scr hall hlen hbits hgen => ?_
  have inK := hY w _ Y
  obtain ⟨K, eK⟩ : ∃ K, K = Kf w.params := ⟨_, rfl⟩
  obtain ⟨fd, ct, sp, tabs, hbind, hfn, hsp⟩ := give w mg fa _ Y G.T.g hmg
  rw [← eK] at inK tabs hfn hsp
  have rv := vals_ints hall
  have lenV := hall.length
  have lenO : ns.length ≤ sizeLine := Nat.le_trans hlen hn2
  obtain ⟨ts, ets⟩ : ∃ ts, ts = ct.map (·.2) := ⟨_, rfl⟩
  have inT : ∀ q ∈ ct, q.2 ∈ ts := fun q h => by rw [ets]; exact List.mem_map.mpr ⟨q, h, rfl⟩
  have ofT : ∀ b ∈ ts, ∃ q ∈ ct, q.2 = b := fun b h => by rw [ets] at h; exact List.mem_map.mp h
  have tabAt : ∀ b ∈ ts, s₁.heap.get? b = some { cls := .none, data := .fields #[] } := fun b h => by
    obtain ⟨q, hq, rfl⟩ := ofT b h
    exact (tabs q hq).2.1
  have tNa : ∀ b ∈ ts, b ≠ a := fun b h e => by
    have z := tabAt b h
    rw [e, scr] at z
    have z2 := congrArg Obj.data (Option.some.inj z)
    cases z2
  -- the script's place
  obtain ⟨own, own1, own2, own3⟩ : ∃ own : Option HO, (∀ u, own = some u → ∃ ob : Obj, u = .frz ob (.lst (ns.map V.int)) ∧ ob = { cls := .type "list", data := .seq vs.toArray }) ∧ (∀ H : Hp, H a = own → SqL K H a (ns.map V.int)) ∧ (own ≠ none → K.lookup a = none) := by
    cases lk : K.lookup a with
    | none =>
      refine ⟨some (.frz { cls := .type "list", data := .seq vs.toArray } (.lst (ns.map V.int))), fun u e => ⟨_, (Option.some.inj e).symm, rfl⟩, fun H e => .inl (.inr ⟨_, e⟩), fun _ => rfl⟩
    | some ob =>
      have e := inK a ob lk
      rw [scr] at e
      cases e
      exact ⟨none, fun u e => (by cases e), fun H _ => .inr ⟨_, vs.toArray, _, lk, rfl, rfl, rfl, by rw [List.size_toArray, lenV]; exact lenO, by simpa using rv⟩, fun z => absurd rfl z⟩
  obtain ⟨H, eH⟩ : ∃ H, H = hp0 ts a own := ⟨_, rfl⟩
  have HT : ∀ q ∈ ct, H q.2 = some (.tbl #[]) := fun q h => by rw [eH]; exact hp0_t (inT q h) (tNa _ (inT q h))
  have HS : SqL K H a (ns.map V.int) := own2 H (by rw [eH]; exact hp0_a)
  have hok : HOk l.prog w H s₁.heap := fun b u e => by
    rw [eH] at e
    rcases hp0_at e with ⟨rfl, e2⟩ | ⟨_, m, rfl⟩
    · obtain ⟨ob, rfl, rfl⟩ := own1 u e2
      exact ⟨scr, by rw [List.length_map]; exact lenO, vs, _, rv, scr⟩
    · exact tabAt b m
  -- what is neither list nor empty table is not tracked
  have untr : ∀ {b : Addr} {ob : Obj}, s₁.heap.get? b = some ob → (∀ vs n, ob.data ≠ .seq vs n) → ob.data ≠ .fields #[] → H b = none := fun {b ob} e n1 n2 => by
    by_cases z : H b = none
    · exact z
    · rw [eH] at z
      rcases hp0_some z with ⟨rfl, _⟩ | ⟨_, m⟩
      · rw [scr] at e
        cases e
        exact absurd rfl (n1 _ _)
      · rw [tabAt b m] at e
        cases e
        exact absurd rfl n2
  have hid : ∀ {b : Addr} {ob : Obj}, s₁.heap.get? b = some ob → (∀ vs n, ob.data ≠ .seq vs n) → ob.data ≠ .fields #[] → (hidT s₁.heap H).get? b = some ob := fun e n1 n2 => hidT_get e (untr e n1 n2)
  have nsH : ∀ {b : Addr} {M : Str → Option Value}, s₁.heap.Ns b M → (hidT s₁.heap H).Ns b M := fun ⟨ob, es, ep, e, dd, r⟩ => ⟨ob, es, ep, hid e (by rw [dd]; intro _ _ z; cases z) (by rw [dd]; intro z; cases z), dd, r⟩
  have inH : K.In (hidT s₁.heap H) := fun b ob e => hidT_get (inK b ob e) (by
    by_cases z : H b = none
    · exact z
    · rw [eH] at z
      rcases hp0_some z with ⟨rfl, no⟩ | ⟨_, m⟩
      · rw [own3 no] at e
        cases e
      · obtain ⟨q, hq, rfl⟩ := ofT b m
        rw [(tabs q hq).2.2] at e
        cases e)
  obtain ⟨mc, lim1, lim2⟩ := G.T.nolimit
  have hM : L2.Mod K mg (hidT s₁.heap H) := ⟨inH, nsH G.T.g, ⟨mb, nsH G.T.b, G.T.builtins⟩, mc, nsH lim1, lim2⟩
  have tb : ∀ q ∈ ct, TabB (hidT s₁.heap H) mg q.1 q.2 := fun q hq => by
    obtain ⟨cq, tq, _⟩ := tabs q hq
    refine ⟨?_, ?_, fun z => ?_⟩
    · obtain ⟨ob, us, file, tf, flags, tg, inF, text, tt, e1, r1, r2, r3, rest⟩ := cq
      refine ⟨ob, us, file, tf, flags, tg, inF, text, tt, hid e1 (fun _ _ z => ?_) (fun z => ?_), r1, r2, r3, rest⟩
      · rw [r2] at z
        cases z
      · rw [r2] at z
        cases z
        simp at r3
    · obtain ⟨bm, ob, b1, b2, b3, b4, b5, b6⟩ := G.T.bmain
      refine ⟨bm, ob, b1, b2, fun z => ?_, fun z => ?_, hid b3 (by rw [b6]; intro _ _ z; cases z) (by rw [b6]; intro z; cases z), b4, b5, b6⟩
      · obtain ⟨og, es, ep, e, dd, _⟩ := G.T.g
        rw [z, e] at b3
        cases b3
        rw [dd] at b6
        cases b6
      · rw [z, tq] at b3
        cases b3
        cases b6
    · obtain ⟨og, es, ep, e, dd, _⟩ := G.T.g
      rw [z, tq] at e
      cases e
      cases dd
  have e0 : Env0 l.prog w K mg (hidT s₁.heap H) callerA [] s₁ H := ⟨rfl, hM, fun b ob e => of_hidT e, Nat.le_of_eq (hidT_size _ _), trivial, (fun b h => by cases h), hok, .of_eq hgen⟩
  have run := (hfn _ (nsH G.T.g) inH tb).run callerA [] s₁ H ⟨[.ref a], []⟩ [.ref a] [.ref a] _ _ hr rfl e0 (hbind s₁ (.ref a)) (.cons rfl .nil) (hsp H a ns HS hlen HT)
  refine codeAny_mono run fun r s' post => ?_
  match r, post with
  | .error e, z => exact False.elim z
  | .ok .next, z => exact False.elim z
  | .ok .brk, z => exact False.elim z
  | .ok .cont, z => exact False.elim z
  | .ok (.ret u), z =>
    obtain ⟨v, H', os, bare, un, hok', r', rfl⟩ := z
    obtain rfl : u = Value.bool true := r'
    have kept : ∀ b ob, ¬ b ∈ ts → s₁.heap.get? b = some ob → s'.heap.get? b = some ob := fun b ob nb e => by
      cases hb : H b with
      | none => exact un.keep b ob e hb (fun z => by cases z) (by simp)
      | some u =>
        have hb' := hb
        rw [eH] at hb'
        rcases hp0_at hb' with ⟨rfl, e2⟩ | ⟨_, m, _⟩
        · obtain ⟨o2, rfl, rfl⟩ := own1 u e2
          have later := (hok' b _ (un.frzs b _ _ hb)).1
          rw [scr] at e
          cases e
          exact later
        · exact absurd m nb
    have grows : ∀ b ∈ ts, ∃ more : Array Value, s'.heap.get? b = some { cls := .none, data := .fields more } := fun b m => by
      obtain ⟨q, hq, rfl⟩ := ofT b m
      obtain ⟨more, z⟩ := un.tbls q.2 #[] (HT q hq)
      exact ⟨_, hok' q.2 _ z⟩
    refine ⟨rfl, ⟨fun b ob e => ?_, fun b ob e => ?_⟩, os, bare⟩
    · by_cases m : b ∈ ts
      · obtain ⟨more, e2⟩ := grows b m
        obtain ⟨q, hq, rfl⟩ := ofT b m
        rw [tabAt _ m] at e
        cases e
        exact .inr (.inl ⟨((tabs q hq).1.tab (tabs q hq).2.1).isCodeTable, rfl, #[], more, rfl, by rw [Array.empty_append]; exact e2⟩)
      · exact .inl (kept b ob m e)
    · by_cases m : b ∈ ts
      · obtain ⟨more, e2⟩ := grows b m
        exact ⟨_, e2⟩
      · exact ⟨ob, kept b ob m e⟩
end Kf

set_option Elab.async false
set_option linter.all false
set_option maxRecDepth 100000
set_option maxHeartbeats 2000000
namespace Kf
open PySem PySem.Spec PyProof.Rows L2 LamX NdefX TL
/-! ## NoEvent out of the top -/
structure NEAt (P : Program) (K : PySem.W.Frag) (NE : Addr) : Prop where
  ex : ∃ fI cc cda fd, OexC K NE ∧ PySem.W.findIn K (.ref NE) "__init__" = some (some (.ref fI)) ∧ PySem.W.typeIn K (.ref fI) = some (.type "function") ∧ (∀ mg : Str → Option Value, mg "super" = none → FtC P K mg NE cc cda) ∧
    (∃ (oc : Value) (od : Option Addr) (kV doc pm : Value) (an : Option Addr) (ct : Value) (osl : Array (Option Value)), fd = PySem.W.fnX "__init__" "NoEvent.__init__" (defArgs s_NoEvent___init__) (defBody s_NoEvent___init__) (defScope s_NoEvent___init__) [("__class__", cc)] .none kV doc pm an (.ref cda) ct ∧ K.lookup fI = some ⟨oc, od, .func fd, osl⟩) ∧ PySem.W.codeIn K (.ref cda) "NoEvent.__init__" = true
  xf : XfC K NE
  no : PySem.W.findIn K (.ref NE) "index" = some none
  exm : PySem.W.exmOne K (.ref NE) (.ref NE) = some true
theorem NEAt.of {P : Program} {K : PySem.W.Frag} {NE fI cc cda : Addr} {nm q : Str} {N : Addr} {bs bm : List Value} {sn : List Str} {sub : List Value} {ab : Bool} {col : Option Bool} {dd : Option Addr} {k0 k1 k2 k3 k5 : Option Value} {oc kV doc pm ct cl ccl : Value} {od an cld cdd : Option Addr} {osl csl ccs : Array (Option Value)} {vs : Array Value} {file : Str} {tf : Tok} {cd : ClassData}
    (xL : K.lookup NE = some (excClassObj nm q NE N bs bm true sn sub ab col dd k0 k1 k2 k3 k5 "ValueError.__new__")) (hbm : PySem.HandSPX.refsVE bm = true) (sa : PySem.W.findIn K (.ref NE) "__setattr__" = some (some (.builtin "object.__setattr__"))) (exC : PySem.W.subIn K (.ref NE) (.type "BaseException") = some true) (tyC : PySem.W.typeIn K (.ref NE) = some (.type "type")) (kC : PySem.W.keepIn K (.ref NE) = true)
    (iC : PySem.W.findIn K (.ref NE) "__init__" = some (some (.ref fI))) (tI : PySem.W.typeIn K (.ref fI) = some (.type "function"))
    (lk : K.lookup fI = some ⟨oc, od, .func (PySem.W.fnX "__init__" "NoEvent.__init__" (defArgs s_NoEvent___init__) (defBody s_NoEvent___init__) (defScope s_NoEvent___init__) [("__class__", cc)] .none kV doc pm an (.ref cda) ct), osl⟩) (cell : K.lookup cc = some ⟨cl, cld, .cell (some (.ref NE)), csl⟩) (code : K.lookup cda = some ⟨ccl, cdd, .fields vs, ccs⟩) (vs2 : vs[2]? = some (.str file tf)) (fl : ((P.main.file : Str) == file) = true)
    (cls : PySem.W.clsIn K NE = some cd) (al : PySem.W.alongIn K "__init__" ((cd.mro.dropWhile (· != .ref NE)).drop 1) = some (some (.builtin "ValueError.__init__"))) (sub1 : PySem.W.mroIn K NE (.ref NE) = some true) (ve : PySem.W.mroIn K NE (.type "ValueError") = some true) (op : PySem.W.nsIn K PySem.cStatics "thirdparty.any" = some none) (top : (P.main.scope.names.lookup ("super" : Str)).isSome = false)
    (hcd : PySem.W.codeIn K (.ref cda) "NoEvent.__init__" = true) (ga : PySem.W.findIn K (.ref NE) "__getattribute__" = some (some (.builtin "BaseException.__getattribute__"))) (gg : PySem.W.findIn K (.ref NE) "__getattr__" = some none) (hd : PySem.W.hasDictIn K NE = true) (no : PySem.W.findIn K (.ref NE) "index" = some none) (exm : PySem.W.exmOne K (.ref NE) (.ref NE) = some true) : NEAt P K NE :=
  ⟨⟨fI, cc, cda, _, ⟨⟨nm, q, N, bs, bm, sn, sub, ab, col, dd, k0, k1, k2, k3, k5, xL, hbm⟩, sa, exC, tyC, kC⟩, iC, tI, fun mg hs => ⟨⟨⟨nm, q, N, bs, bm, sn, sub, ab, col, dd, k0, k1, k2, k3, k5, xL, hbm⟩, sa, exC, tyC, kC⟩, ⟨cl, cld, csl, cell⟩, ⟨ccl, cdd, vs, ccs, file, tf, code, vs2, fl⟩, ⟨cd, cls, al⟩, sub1, ve, op, hs, top⟩, ⟨oc, od, kV, doc, pm, an, ct, osl, rfl, lk⟩, hcd⟩, ⟨ga, gg, exC, hd⟩, no, exm⟩
theorem NEAt.mk' {P : Program} {w : World} {K : PySem.W.Frag} {mg : Str → Option Value} {base : Heap} {NE : Addr} (h : NEAt P K NE) (hm : mg "NoEvent" = some (.ref NE)) (hs : mg "super" = none) : FtMk P w K mg base 1 "NoEvent" NE "index" := by
  obtain ⟨fI, cc, cda, fd, T, iC, tI, ft, ⟨oc, od, kV, doc, pm, an, ct, osl, rfl, lk⟩, hcd⟩ := h.ex
  refine ⟨fI, _, T, iC, tI, hm, ?_, fault_ok2 (k := 0) (c := "no event that is possible at index ") (f := "index") lk hcd (nscope_by (by decide +kernel)) (ft mg hs) (by decide +kernel) rfl rfl h.no (by decide +kernel) (by decide) (by decide) (fun env => ⟨_, rfl⟩)⟩
  exact .all fun us hl => match us, hl with | [_, _], _ => rfl
end Kf

set_option Elab.async false
set_option linter.all false
set_option maxRecDepth 100000
set_option maxHeartbeats 2000000
namespace Kf
open PySem PySem.Spec PyProof.Rows L2 LamX NdefX TL
/-! ## what the top has left -/
structure DefAt (K : PySem.W.Frag) (x : Str) (st : Stmt) : Prop where
  ex : ∃ f fd, PySem.W.nsIn K mainGlobals x = some (some (.ref f)) ∧ L2.Fun K x x st f fd
section
variable {K : PySem.W.Frag} {x qual : Str} {st : Stmt} {f : Addr} {od an : Option Addr} {sl : Array (Option Value)} {oc kV dc pm cd ct : Value}
theorem DefAt.of (a : PySem.W.nsIn K mainGlobals x = some (some (.ref f))) (l : K.lookup f = some ⟨oc, od, .func (PySem.W.fnOf x x (defArgs st) (defBody st) (defScope st) .none kV dc pm an cd ct), sl⟩) (c : PySem.W.codeIn K cd x = true) (k : PySem.W.keepIn K (.ref f) = true) : DefAt K x st := ⟨f, _, a, fun_mk l c k⟩
end
theorem DefAt.cal {P : Program} {w : World} {K : PySem.W.Frag} {mg : Str → Option Value} {base h : Heap} {k : Nat} {x : Str} {st : Stmt} {ps : List Str} {sp : Sp} (D : DefAt K x st) (X : K.In h) (G : h.Ns mainGlobals mg)
    (hb : ∀ (kV doc pm : Value) (an : Option Addr) (cdv ct : Value) (us : List Value), us.length = ps.length → bindArgs (PySem.W.fnOf x x (defArgs st) (defBody st) (defScope st) .none kV doc pm an cdv ct) ⟨us, []⟩ = pure (ps.zip us))
    (ok : ∀ f fd, L2.Fun K x x st f fd → FnOk P w K mg base CX0 k f fd ps sp) : Cal P w K mg base k x ps sp := by
  obtain ⟨f, fd, a, F⟩ := D.ex
  exact ⟨f, fd, PySem.W.mg_of X G a, F.kp, F.binds hb, ok f fd F⟩
theorem constAt {K : PySem.W.Frag} {x : Str} {v : V} {u : Value} (a : PySem.W.nsIn K mainGlobals x = some (some u)) (r : RelV v u) : ∃ u, PySem.W.nsIn K mainGlobals x = some (some u) ∧ RelV v u := ⟨u, a, r⟩
/-- a property whose getter hands back a field -/
structure GetAt (K : PySem.W.Frag) (C : Addr) (x qual fl : Str) (st : Stmt) : Prop where
  ex : ∃ (p g : Addr) (oc : Value) (od : Option Addr) (kV doc pm : Value) (an : Option Addr) (cdv ct : Value) (osl : Array (Option Value)), PropOf K C x p g ∧
    K.lookup g = some ⟨oc, od, .func (PySem.W.fnOf x qual (defArgs st) (defBody st) (defScope st) .none kV doc pm an cdv ct), osl⟩ ∧ PySem.W.codeIn K cdv qual = true
theorem GetAt.of {K : PySem.W.Frag} {C p g : Addr} {x qual fl : Str} {st : Stmt} {oc : Value} {od : Option Addr} {kV doc pm : Value} {an : Option Addr} {cdv ct : Value} {osl : Array (Option Value)} {rest : List Value} (a : PySem.W.findIn K (.ref C) x = some (some (.ref p))) (b : PySem.W.specialIn K (.ref p) "__get__" = some (some (.builtin "property.__get__")))
    (c : PySem.W.takesIn K (.ref p) = some true) (d : PySem.W.recIn K p "property" = some (.ref g :: rest)) (l : K.lookup g = some ⟨oc, od, .func (PySem.W.fnOf x qual (defArgs st) (defBody st) (defScope st) .none kV doc pm an cdv ct), osl⟩) (e : PySem.W.codeIn K cdv qual = true) : GetAt K C x qual fl st :=
  ⟨p, g, oc, od, kV, doc, pm, an, cdv, ct, osl, ⟨a, b, c, _, d⟩, l, e⟩
theorem GetAt.prop {P : Program} {w : World} {K : PySem.W.Frag} {mg : Str → Option Value} {base : Heap} {C : Addr} {x qual fl : Str} {st : Stmt} {p1 p2 p3 : Pos} (D : GetAt K C x qual fl st) (S : FnScope ["self"] ["self"] (defScope st)) (hb : defBody st = [.Return (some (.Attribute (.Name "self" p1) fl p2)) p3]) (c : Cls K C) (n : NoAttr K C fl)
    (bd : ∀ (kV doc pm : Value) (an : Option Addr) (cdv ct : Value) (us : List Value), us.length = 1 → bindArgs (PySem.W.fnOf x qual (defArgs st) (defBody st) (defScope st) .none kV doc pm an cdv ct) ⟨us, []⟩ = pure ([("self" : Str)].zip us)) : PropC P w K mg base C x fl := by
  obtain ⟨p, g, oc, od, kV, doc, pm, an, cdv, ct, osl, hp, l, e⟩ := D.ex
  exact ⟨p, g, _, hp, .all (bd kV doc pm an cdv ct), fn_getter l e S rfl hb c n⟩
/-- a def with a lambda: its code object, and the table that stands there -/
structure LmdAt (K : PySem.W.Frag) (x : Str) (st : Stmt) (c P : Addr) : Prop where
  ex : ∃ f fd, PySem.W.nsIn K mainGlobals x = some (some (.ref f)) ∧ PySem.W.keepIn K (.ref f) = true ∧ FunC K x x st f fd c ∧ (∀ {ps : List Str}, (∀ (kV doc pm : Value) (an : Option Addr) (cdv ct : Value) (us : List Value), us.length = ps.length → bindArgs (PySem.W.fnOf x x (defArgs st) (defBody st) (defScope st) .none kV doc pm an cdv ct) ⟨us, []⟩ = pure (ps.zip us)) → Binds K fd ps [])
  th : PySem.W.codeHdIn K c P = true
  tn : K.lookup P = none
theorem LmdAt.of {K : PySem.W.Frag} {x : Str} {st : Stmt} {c P f : Addr} {od an : Option Addr} {sl : Array (Option Value)} {oc kV dc pm ct : Value} (a : PySem.W.nsIn K mainGlobals x = some (some (.ref f))) (l : K.lookup f = some ⟨oc, od, .func (PySem.W.fnOf x x (defArgs st) (defBody st) (defScope st) .none kV dc pm an (.ref c) ct), sl⟩) (e : PySem.W.codeIn K (.ref c) x = true) (k : PySem.W.keepIn K (.ref f) = true)
    (th : PySem.W.codeHdIn K c P = true) (tn : K.lookup P = none) : LmdAt K x st c P := ⟨⟨f, _, a, k, ⟨oc, od, kV, dc, pm, an, ct, sl, rfl, l, e⟩, fun hb => .all (hb kV dc pm an (.ref c) ct)⟩, th, tn⟩
/-- a method of a class -/
structure MetAt (K : PySem.W.Frag) (C : Addr) (m qual : Str) (st : Stmt) : Prop where
  ex : ∃ f fd, Meth K C m f ∧ L2.Fun K m qual st f fd
theorem MetAt.of {K : PySem.W.Frag} {C : Addr} {m qual : Str} {st : Stmt} {f : Addr} {od an : Option Addr} {sl : Array (Option Value)} {oc kV dc pm cd ct : Value} (a : PySem.W.findIn K (.ref C) m = some (some (.ref f))) (i : PySem.W.isFn K (.ref f) = true) (l : K.lookup f = some ⟨oc, od, .func (PySem.W.fnOf m qual (defArgs st) (defBody st) (defScope st) .none kV dc pm an cd ct), sl⟩) (e : PySem.W.codeIn K cd qual = true) (k : PySem.W.keepIn K (.ref f) = true) : MetAt K C m qual st := ⟨f, _, ⟨a, i, k⟩, fun_mk l e k⟩
theorem MetAt.met {P : Program} {w : World} {K : PySem.W.Frag} {mg : Str → Option Value} {base : Heap} {C : Addr} {m qual : Str} {st : Stmt} {k : Nat} {ps : List Str} {sp : Sp} (D : MetAt K C m qual st) (c : Cls K C)
    (hb : ∀ (kV doc pm : Value) (an : Option Addr) (cdv ct : Value) (us : List Value), us.length = ps.length → bindArgs (PySem.W.fnOf m qual (defArgs st) (defBody st) (defScope st) .none kV doc pm an cdv ct) ⟨us, []⟩ = pure (ps.zip us))
    (ok : ∀ f fd, L2.Fun K m qual st f fd → FnOk P w K mg base CX0 k f fd ps sp) : C8.Met P w K mg base k C m sp [] := by
  obtain ⟨f, fd, me, F⟩ := D.ex
  exact ⟨f, fd, ps, [], c, me, ok f fd F, F.binds hb, .nil⟩
/-- a class that is made by its name -/
structure InitAt (K : PySem.W.Frag) (C : Addr) (qual : Str) (st : Stmt) : Prop where
  ex : ∃ f fd, Mk K C f ∧ L2.Fun K "__init__" qual st f fd
theorem InitAt.of {K : PySem.W.Frag} {C : Addr} {qual : Str} {st : Stmt} {f : Addr} {od an : Option Addr} {sl : Array (Option Value)} {oc kV dc pm cd ct : Value} (m : PySem.W.makesIn K C = true) (a : PySem.W.findIn K (.ref C) "__init__" = some (some (.ref f))) (i : PySem.W.isFn K (.ref f) = true) (kc : PySem.W.keepIn K (.ref C) = true) (l : K.lookup f = some ⟨oc, od, .func (PySem.W.fnOf "__init__" qual (defArgs st) (defBody st) (defScope st) .none kV dc pm an cd ct), sl⟩) (e : PySem.W.codeIn K cd qual = true) (k : PySem.W.keepIn K (.ref f) = true) : InitAt K C qual st := ⟨f, _, ⟨m, a, i, kc⟩, fun_mk l e k⟩
theorem InitAt.mak {P : Program} {w : World} {K : PySem.W.Frag} {mg : Str → Option Value} {base h : Heap} {C : Addr} {x qual : Str} {st : Stmt} {k : Nat} {ps : List Str} {sp : Sp} (D : InitAt K C qual st) (hm : mg x = some (.ref C))
    (hb : ∀ (kV doc pm : Value) (an : Option Addr) (cdv ct : Value) (us : List Value), us.length = ps.length → bindArgs (PySem.W.fnOf "__init__" qual (defArgs st) (defBody st) (defScope st) .none kV doc pm an cdv ct) ⟨us, []⟩ = pure (ps.zip us))
    (ok : ∀ f fd, L2.Fun K "__init__" qual st f fd → FnOk P w K mg base CX0 k f fd ps sp) : MakC P w K mg base k x C ps sp := by
  obtain ⟨f, fd, me, F⟩ := D.ex
  exact ⟨f, fd, me, hm, F.binds hb, ok f fd F⟩
def nmA : Nat → Nat → Str := fun _ _ => "is_top.<locals>.<lambda>"
def nmB : Nat → Nat → Str := fun _ _ => "truths_in.<locals>.<lambda>"
def nmC : Nat → Nat → Str := fun _ _ => "truths_now.<locals>.<lambda>"
def nmL : Nat → Nat → Str := fun _ _ => "law.<locals>.<lambda>"
theorem give_mk {l : PySem.W.OpenLaw} {w : World} {K : PySem.W.Frag} {h : Heap} {mg : Str → Option Value} {fa C CR NE cA cB cC cL PA PB PC PL : Addr} {ts : List Addr}
    (X : K.In h) (G : h.Ns mainGlobals mg) (hfa : mg "law" = some (.ref fa)) (hts : ∀ P ∈ ts, h.get? P = some { cls := .none, data := .fields #[] }) (hA : PA ∈ ts) (hB : PB ∈ ts) (hC : PC ∈ ts) (hL : PL ∈ ts) (nAB : PA ≠ PB) (nAC : PA ≠ PC) (nBC : PB ≠ PC) (nAL : PA ≠ PL) (nBL : PB ≠ PL) (nCL : PC ≠ PL)
    (mC : PySem.W.nsIn K mainGlobals "Plant" = some (some (.ref C)))
    (mR : PySem.W.nsIn K mainGlobals "Run" = some (some (.ref CR)))
    (mN : PySem.W.nsIn K mainGlobals "NoEvent" = some (some (.ref NE)))
    (neT : NEAt l.prog K NE)
    (z_super : PySem.W.nsIn K mainGlobals "super" = some none)
    (d_is_name : DefAt K "is_name" s_is_name)
    (d_is_integer : DefAt K "is_integer" s_is_integer)
    (d_is_list : DefAt K "is_list" s_is_list)
    (d_all_differ : DefAt K "all_differ" s_all_differ)
    (d_is_choice : DefAt K "is_choice" s_is_choice)
    (d_is_part : DefAt K "is_part" s_is_part)
    (d_are_parts : DefAt K "are_parts" s_are_parts)
    (d_is_cause : DefAt K "is_cause" s_is_cause)
    (d_are_causes : DefAt K "are_causes" s_are_causes)
    (d_is_watch : DefAt K "is_watch" s_is_watch)
    (d_is_gate : DefAt K "is_gate" s_is_gate)
    (d_are_gates : DefAt K "are_gates" s_are_gates)
    (d_take : DefAt K "take" s_take)
    (d_first_uses : DefAt K "first_uses" s_first_uses)
    (d_gate_truth : DefAt K "gate_truth" s_gate_truth)
    (d__law_take : DefAt K "_law_take" s__law_take)
    (d__law_begin : DefAt K "_law_begin" s__law_begin)
    (d__law_pick : DefAt K "_law_pick" s__law_pick)
    (d__law_mixed : DefAt K "_law_mixed" s__law_mixed)
    (d__law_words : DefAt K "_law_words" s__law_words)
    (d__law_some : DefAt K "_law_some" s__law_some)
    (d__law_gate : DefAt K "_law_gate" s__law_gate)
    (d__law_seat : DefAt K "_law_seat" s__law_seat)
    (d__law_truth : DefAt K "_law_truth" s__law_truth)
    (d__law_truths : DefAt K "_law_truths" s__law_truths)
    (d__law_closed : DefAt K "_law_closed" s__law_closed)
    (d__law_fresh : DefAt K "_law_fresh" s__law_fresh)
    (d__law_plant : DefAt K "_law_plant" s__law_plant)
    (d_came_first : DefAt K "came_first" s_came_first)
    (d_beginning : DefAt K "beginning" s_beginning)
    (d_events_in : DefAt K "events_in" s_events_in)
    (d_state_of : DefAt K "state_of" s_state_of)
    (d_joining : DefAt K "joining" s_joining)
    (d_after_failure : DefAt K "after_failure" s_after_failure)
    (d_after_mend : DefAt K "after_mend" s_after_mend)
    (d_after : DefAt K "after" s_after)
    (d__law_made : DefAt K "_law_made" s__law_made)
    (d__law_event : DefAt K "_law_event" s__law_event)
    (d__law_can : DefAt K "_law_can" s__law_can)
    (d__law_row : DefAt K "_law_row" s__law_row)
    (d__law_led : DefAt K "_law_led" s__law_led)
    (d__law_any_event : DefAt K "_law_any_event" s__law_any_event)
    (d__law_index : DefAt K "_law_index" s__law_index)
    (d_at : DefAt K "at" s_at)
    (d_tell : DefAt K "tell" s_tell)
    (d__law_caught : DefAt K "_law_caught" s__law_caught)
    (l_is_top : LmdAt K "is_top" s_is_top cA PA)
    (l_truths_in : LmdAt K "truths_in" s_truths_in cB PB)
    (l_truths_now : LmdAt K "truths_now" s_truths_now cC PC)
    (l_law : LmdAt K "law" s_law cL PL)
    (pg_Plant : PySem.W.plainGet K C Str.empty = true)
    (hd_Plant : PySem.W.hasDictIn K C = true)
    (po_Plant : PySem.W.plainOver K C = true)
    (sa_Plant : PySem.W.findIn K (.ref C) "__setattr__" = some (some (.builtin "object.__setattr__")))
    (pg_Run : PySem.W.plainGet K CR Str.empty = true)
    (hd_Run : PySem.W.hasDictIn K CR = true)
    (po_Run : PySem.W.plainOver K CR = true)
    (sa_Run : PySem.W.findIn K (.ref CR) "__setattr__" = some (some (.builtin "object.__setattr__")))
    (n_parts : PySem.W.findIn K (.ref C) "_parts" = some none)
    (n_gates : PySem.W.findIn K (.ref C) "_gates" = some none)
    (n_causes : PySem.W.findIn K (.ref C) "_causes" = some none)
    (n_top : PySem.W.findIn K (.ref C) "_top" = some none)
    (n_plant : PySem.W.findIn K (.ref CR) "_plant" = some none)
    (n_state : PySem.W.findIn K (.ref CR) "_state" = some none)
    (n_stopped : PySem.W.findIn K (.ref CR) "_stopped" = some none)
    (g_parts : GetAt K C "parts" "Plant.parts" "_parts" s_Plant_parts)
    (g_gates : GetAt K C "gates" "Plant.gates" "_gates" s_Plant_gates)
    (g_causes : GetAt K C "causes" "Plant.causes" "_causes" s_Plant_causes)
    (g_top : GetAt K C "top" "Plant.top" "_top" s_Plant_top)
    (g_rstate : GetAt K CR "state" "Run.state" "_state" s_Run_state)
    (i_Plant : InitAt K C "Plant.__init__" s_Plant___init__)
    (i_Run : InitAt K CR "Run.__init__" s_Run___init__)
    (m__enter : MetAt K CR "_enter" "Run._enter" s_Run__enter)
    (m_truths : MetAt K CR "truths" "Run.truths" s_Run_truths)
    (m_possible : MetAt K CR "possible" "Run.possible" s_Run_possible)
    (m_do_all : MetAt K CR "do_all" "Run.do_all" s_Run_do_all)
    (m_do : MetAt K CR "do" "Run.do" s_Run_do)
    (m_copy : MetAt K CR "copy" "Run.copy" s_Run_copy)
    (z_isinstance : PySem.W.nsIn K mainGlobals "isinstance" = some none)
    (z_str : PySem.W.nsIn K mainGlobals "str" = some none)
    (z_int : PySem.W.nsIn K mainGlobals "int" = some none)
    (z_bool : PySem.W.nsIn K mainGlobals "bool" = some none)
    (z_list : PySem.W.nsIn K mainGlobals "list" = some none)
    (z_tuple : PySem.W.nsIn K mainGlobals "tuple" = some none)
    (z_dict : PySem.W.nsIn K mainGlobals "dict" = some none)
    (z_len : PySem.W.nsIn K mainGlobals "len" = some none)
    (z_all : PySem.W.nsIn K mainGlobals "all" = some none)
    (z_any : PySem.W.nsIn K mainGlobals "any" = some none)
    (z_range : PySem.W.nsIn K mainGlobals "range" = some none)
    (z_abs : PySem.W.nsIn K mainGlobals "abs" = some none)
    (z_divmod : PySem.W.nsIn K mainGlobals "divmod" = some none)
    (z_min : PySem.W.nsIn K mainGlobals "min" = some none)
    (z_repr : PySem.W.nsIn K mainGlobals "repr" = some none)
    (z_sorted : PySem.W.nsIn K mainGlobals "sorted" = some none)
    (z_enumerate : PySem.W.nsIn K mainGlobals "enumerate" = some none)
    (z_zip : PySem.W.nsIn K mainGlobals "zip" = some none)
    (z_set : PySem.W.nsIn K mainGlobals "set" = some none)
    (v_LETTERS : ∃ u, PySem.W.nsIn K mainGlobals "LETTERS" = some (some u) ∧ RelV (.str "abcdefghijklmnopqrstuvwxyz") u)
    (v_MOST_LETTERS : ∃ u, PySem.W.nsIn K mainGlobals "MOST_LETTERS" = some (some u) ∧ RelV (.int 6) u)
    (v_MOST_PARTS : ∃ u, PySem.W.nsIn K mainGlobals "MOST_PARTS" = some (some u) ∧ RelV (.int 8) u)
    (v_MOST_GATES : ∃ u, PySem.W.nsIn K mainGlobals "MOST_GATES" = some (some u) ∧ RelV (.int 8) u)
    (v_MOST_CAUSES : ∃ u, PySem.W.nsIn K mainGlobals "MOST_CAUSES" = some (some u) ∧ RelV (.int 4) u) :
    GiveG l w K 13 63 "script" mg fa h := by
  obtain ⟨fo, fdo, ao, kpo, Fo, _⟩ := l_law.ex
  have e := hfa.symm.trans (PySem.W.mg_of X G ao)
  cases e
  obtain ⟨oco, odo, kVo, dco, pmo, ano, cto, slo, rfl, lo, co⟩ := Fo.ex
  have T : Nm mg := ⟨PySem.W.mg_none_of X G z_isinstance, PySem.W.mg_none_of X G z_str, PySem.W.mg_none_of X G z_int, PySem.W.mg_none_of X G z_bool, PySem.W.mg_none_of X G z_list, PySem.W.mg_none_of X G z_tuple, PySem.W.mg_none_of X G z_dict, PySem.W.mg_none_of X G z_len, PySem.W.mg_none_of X G z_all, PySem.W.mg_none_of X G z_any, PySem.W.mg_none_of X G z_range, PySem.W.mg_none_of X G z_abs, PySem.W.mg_none_of X G z_divmod, PySem.W.mg_none_of X G z_min, PySem.W.mg_none_of X G z_repr, PySem.W.mg_none_of X G z_sorted, PySem.W.mg_none_of X G z_enumerate, PySem.W.mg_none_of X G z_zip, PySem.W.mg_none_of X G z_set⟩
  have gc : ∀ {x : Str} {v : V}, (∃ u, PySem.W.nsIn K mainGlobals x = some (some u) ∧ RelV v u) → GC mg x v := fun ⟨u, a, r⟩ => ⟨u, PySem.W.mg_of X G a, r⟩
  have Z : Cn mg := ⟨gc v_LETTERS, gc v_MOST_LETTERS, gc v_MOST_PARTS, gc v_MOST_GATES, gc v_MOST_CAUSES⟩
  have cl : Cls K C := ⟨pg_Plant, hd_Plant, po_Plant, sa_Plant⟩
  have cr : Cls K CR := ⟨pg_Run, hd_Run, po_Run, sa_Run⟩
  have L : PlC K mg C := ⟨cl, n_parts, n_gates, n_causes, n_top, PySem.W.mg_of X G mC⟩
  have LR : RnC K mg CR := ⟨cr, n_plant, n_state, n_stopped, PySem.W.mg_of X G mR⟩
  refine ⟨PySem.W.fnOf "law" "law" (defArgs s_law) (defBody s_law) (defScope s_law) .none kVo dco pmo ano (.ref cL) cto, [(cA, PA), (cB, PB), (cC, PC), (cL, PL)], spLaw K [(PA, nmA), (PB, nmB), (PC, nmC), (PL, nmL)], fun q hq => ?_, fun st u => .of_eq rfl, fun base gb inb tb => ?_, fun H a ns hs hl ht => ⟨a, ns, rfl, hs, hl, ?_, fun _ => rfl⟩⟩
  · simp only [List.mem_cons, List.not_mem_nil, or_false] at hq
    rcases hq with rfl | rfl | rfl | rfl
    · exact ⟨PySem.W.codeHd_of_K X l_is_top.th, hts _ hA, l_is_top.tn⟩
    · exact ⟨PySem.W.codeHd_of_K X l_truths_in.th, hts _ hB, l_truths_in.tn⟩
    · exact ⟨PySem.W.codeHd_of_K X l_truths_now.th, hts _ hC, l_truths_now.tn⟩
    · exact ⟨PySem.W.codeHd_of_K X l_law.th, hts _ hL, l_law.tn⟩
  · have TA := tb (cA, PA) (by simp)
    have TB := tb (cB, PB) (by simp)
    have TC := tb (cC, PC) (by simp)
    have TL := tb (cL, PL) (by simp)
    obtain ⟨T0, eT⟩ : ∃ T0, T0 = [(PA, nmA), (PB, nmB), (PC, nmC), (PL, nmL)] := ⟨_, rfl⟩
    rw [← eT]
    have inA : (PA, nmA) ∈ T0 := by rw [eT]; simp
    have inB : (PB, nmB) ∈ T0 := by rw [eT]; simp
    have inC : (PC, nmC) ∈ T0 := by rw [eT]; simp
    have un : ∀ {P : Addr} {nm : Nat → Nat → Str}, (P, nm) ∈ T0 → ∀ p ∈ T0, p.1 = P → p.2 = nm := by
      intro P nm hm p hp e
      rw [eT] at hm hp
      simp only [List.mem_cons, List.not_mem_nil, or_false, Prod.mk.injEq] at hm hp
      rcases hm with ⟨rfl, rfl⟩ | ⟨rfl, rfl⟩ | ⟨rfl, rfl⟩ | ⟨rfl, rfl⟩ <;> rcases hp with rfl | rfl | rfl | rfl <;> first | rfl | exact absurd e nAB | exact absurd e nAC | exact absurd e nBC | exact absurd e nAL | exact absurd e nBL | exact absurd e nCL | exact absurd e.symm nAB | exact absurd e.symm nAC | exact absurd e.symm nBC | exact absurd e.symm nAL | exact absurd e.symm nBL | exact absurd e.symm nCL
    have C_is_name : Cal l.prog w K mg base 1 "is_name" ["value"] spIsName := d_is_name.cal X G (fun _ _ _ _ _ _ us hl => match us, hl with | [_], _ => rfl) fun f fd F => ok_is_name F T Z
    have C_is_integer : Cal l.prog w K mg base 1 "is_integer" ["value"] spIsInteger := d_is_integer.cal X G (fun _ _ _ _ _ _ us hl => match us, hl with | [_], _ => rfl) fun f fd F => ok_is_integer F T
    have C_is_list : Cal l.prog w K mg base 1 "is_list" ["value"] (spIsList K) := d_is_list.cal X G (fun _ _ _ _ _ _ us hl => match us, hl with | [_], _ => rfl) fun f fd F => ok_is_list F T
    have C_all_differ : Cal l.prog w K mg base 1 "all_differ" ["values"] (spAllDiffer K) := d_all_differ.cal X G (fun _ _ _ _ _ _ us hl => match us, hl with | [_], _ => rfl) fun f fd F => ok_all_differ F T
    have C_is_choice : Cal l.prog w K mg base 2 "is_choice" ["value", "names"] (spIsChoice K) := d_is_choice.cal X G (fun _ _ _ _ _ _ us hl => match us, hl with | [_, _], _ => rfl) fun f fd F => ok_is_choice F T C_all_differ
    have C_is_part : Cal l.prog w K mg base 2 "is_part" ["value"] (spIsPart K) := d_is_part.cal X G (fun _ _ _ _ _ _ us hl => match us, hl with | [_], _ => rfl) fun f fd F => ok_is_part F T C_is_name
    have C_are_parts : Cal l.prog w K mg base 3 "are_parts" ["value"] (spAreParts K) := d_are_parts.cal X G (fun _ _ _ _ _ _ us hl => match us, hl with | [_], _ => rfl) fun f fd F => ok_are_parts F T Z C_is_list C_is_part C_all_differ
    have C_is_cause : Cal l.prog w K mg base 3 "is_cause" ["value", "parts", "names"] (spIsCause K) := d_is_cause.cal X G (fun _ _ _ _ _ _ us hl => match us, hl with | [_, _, _], _ => rfl) fun f fd F => ok_is_cause F T C_is_choice
    have C_are_causes : Cal l.prog w K mg base 4 "are_causes" ["value", "parts", "names"] (spAreCauses K) := d_are_causes.cal X G (fun _ _ _ _ _ _ us hl => match us, hl with | [_, _, _], _ => rfl) fun f fd F => ok_are_causes F T Z C_is_list C_is_cause
    have C_is_watch : Cal l.prog w K mg base 3 "is_watch" ["word", "rest", "parts", "names"] (spIsWatch K) := d_is_watch.cal X G (fun _ _ _ _ _ _ us hl => match us, hl with | [_, _, _, _], _ => rfl) fun f fd F => ok_is_watch F T C_is_choice C_is_integer
    have C_is_gate : Cal l.prog w K mg base 4 "is_gate" ["value", "parts", "names"] (spIsGate K) := d_is_gate.cal X G (fun _ _ _ _ _ _ us hl => match us, hl with | [_, _, _], _ => rfl) fun f fd F => ok_is_gate F T C_is_name C_is_watch
    have C_are_gates : Cal l.prog w K mg base 5 "are_gates" ["value", "parts"] (spAreGates K) := d_are_gates.cal X G (fun _ _ _ _ _ _ us hl => match us, hl with | [_, _], _ => rfl) fun f fd F => ok_are_gates F T Z C_is_list C_is_gate
    have C_take : Cal l.prog w K mg base 1 "take" ["gates", "uses", "failed"] (spTakeU K) := d_take.cal X G (fun _ _ _ _ _ _ us hl => match us, hl with | [_, _, _], _ => rfl) fun f fd F => ok_take_ F T
    have C_first_uses : Cal l.prog w K mg base 2 "first_uses" ["gates"] (spFirst K) := d_first_uses.cal X G (fun _ _ _ _ _ _ us hl => match us, hl with | [_], _ => rfl) fun f fd F => ok_first_uses F T C_take
    have C_gate_truth : Cal l.prog w K mg base 1 "gate_truth" ["gate", "truths", "uses"] (spGateTruth K) := d_gate_truth.cal X G (fun _ _ _ _ _ _ us hl => match us, hl with | [_, _, _], _ => rfl) fun f fd F => ok_gate_truth F T
    have C__law_take : Cal l.prog w K mg base 1 "_law_take" ["draw", "size"] spTake := d__law_take.cal X G (fun _ _ _ _ _ _ us hl => match us, hl with | [_, _], _ => rfl) fun f fd F => ok_take F T.n_int T.n_divmod
    have C__law_begin : Cal l.prog w K mg base 1 "_law_begin" ["script"] (spBegin K) := d__law_begin.cal X G (fun _ _ _ _ _ _ us hl => match us, hl with | [_], _ => rfl) fun f fd F => ok_begin F T.n_abs T.n_list
    have C__law_pick : Cal l.prog w K mg base 2 "_law_pick" ["draw", "some"] (spPick2 K) := d__law_pick.cal X G (fun _ _ _ _ _ _ us hl => match us, hl with | [_, _], _ => rfl) fun f fd F => ok_pick2 F T C__law_take
    have C__law_mixed : Cal l.prog w K mg base 2 "_law_mixed" ["draw", "some"] (spMixed K) := d__law_mixed.cal X G (fun _ _ _ _ _ _ us hl => match us, hl with | [_, _], _ => rfl) fun f fd F => ok_mixed (k := 0) F T C__law_take
    have C__law_words : Cal l.prog w K mg base 3 "_law_words" ["draw", "many"] spWords := d__law_words.cal X G (fun _ _ _ _ _ _ us hl => match us, hl with | [_, _], _ => rfl) fun f fd F => ok_words F T C__law_take C__law_pick
    have C__law_some : Cal l.prog w K mg base 3 "_law_some" ["draw", "labels", "bound"] (spSome K) := d__law_some.cal X G (fun _ _ _ _ _ _ us hl => match us, hl with | [_, _, _], _ => rfl) fun f fd F => ok_some F T C__law_take C__law_mixed
    have C__law_gate : Cal l.prog w K mg base 4 "_law_gate" ["draw", "name", "pieces", "labels"] (spGate K) := d__law_gate.cal X G (fun _ _ _ _ _ _ us hl => match us, hl with | [_, _, _, _], _ => rfl) fun f fd F => ok_gate F T C__law_take C__law_pick C__law_mixed C__law_some
    have C__law_seat : Cal l.prog w K mg base 1 "_law_seat" ["m", "w"] (spSeat K) := d__law_seat.cal X G (fun _ _ _ _ _ _ us hl => match us, hl with | [_, _], _ => rfl) fun f fd F => ok_seat F T
    have C__law_truth : Cal l.prog w K mg base 1 "_law_truth" ["w", "gate", "found"] (spLawTruth K) := d__law_truth.cal X G (fun _ _ _ _ _ _ us hl => match us, hl with | [_, _, _], _ => rfl) fun f fd F => ok_law_truth F T
    have C__law_truths : Cal l.prog w K mg base 2 "_law_truths" ["m", "w"] (spLawTruths K) := d__law_truths.cal X G (fun _ _ _ _ _ _ us hl => match us, hl with | [_, _], _ => rfl) fun f fd F => ok_law_truths F T C__law_truth
    have C__law_closed : Cal l.prog w K mg base 3 "_law_closed" ["m", "w"] (spClosed K) := d__law_closed.cal X G (fun _ _ _ _ _ _ us hl => match us, hl with | [_, _], _ => rfl) fun f fd F => ok_law_closed F T C__law_truths
    have C__law_fresh : Cal l.prog w K mg base 4 "_law_fresh" ["m"] (spFresh K) := d__law_fresh.cal X G (fun _ _ _ _ _ _ us hl => match us, hl with | [_], _ => rfl) fun f fd F => ok_law_fresh F T C__law_seat C__law_closed
    have C__law_plant : Cal l.prog w K mg base 5 "_law_plant" ["draw", "most_parts", "most_gates", "most_causes"] (spPlantL K) := d__law_plant.cal X G (fun _ _ _ _ _ _ us hl => match us, hl with | [_, _, _, _], _ => rfl) fun f fd F => ok_plantL F T C__law_take C__law_pick C__law_words C__law_some C__law_gate C__law_fresh
    have R1 : PropC l.prog w K mg base C "parts" "_parts" := g_parts.prop sc_Plant_parts rfl cl n_parts (fun _ _ _ _ _ _ us hl => match us, hl with | [_], _ => rfl)
    have R2 : PropC l.prog w K mg base C "gates" "_gates" := g_gates.prop sc_Plant_gates rfl cl n_gates (fun _ _ _ _ _ _ us hl => match us, hl with | [_], _ => rfl)
    have R3 : PropC l.prog w K mg base C "causes" "_causes" := g_causes.prop sc_Plant_causes rfl cl n_causes (fun _ _ _ _ _ _ us hl => match us, hl with | [_], _ => rfl)
    have R4 : PropC l.prog w K mg base C "top" "_top" := g_top.prop sc_Plant_top rfl cl n_top (fun _ _ _ _ _ _ us hl => match us, hl with | [_], _ => rfl)
    have S_state : PropC l.prog w K mg base CR "state" "_state" := g_rstate.prop sc_Run_state rfl cr n_state (fun _ _ _ _ _ _ us hl => match us, hl with | [_], _ => rfl)
    obtain ⟨fl, fdl, al, Fl⟩ := d_tell.ex
    have C_tell : CalS l.prog w K mg base 4 "tell" ["parts", "gates", "failed", "uses", "before"] (spTell l.prog w K mg base) := ⟨fl, fdl, PySem.W.mg_of X G al, Fl.kp, Fl.binds (fun _ _ _ _ _ _ us hl => match us, hl with | [_, _, _, _, _], _ => rfl), ok_tell Fl T C_gate_truth⟩
    have C_came_first : Cal l.prog w K mg base 1 "came_first" ["gate", "now", "earlier"] (spCame K) := d_came_first.cal X G (fun _ _ _ _ _ _ us hl => match us, hl with | [_, _, _], _ => rfl) fun f fd F => ok_came_first (k := 0) F T
    have C_beginning : Cal l.prog w K mg base 3 "beginning" ["plant"] (spBeginning K C) := d_beginning.cal X G (fun _ _ _ _ _ _ us hl => match us, hl with | [_], _ => rfl) fun f fd F => ok_beginning F T L R2 C_first_uses
    have C_events_in : Cal l.prog w K mg base 3 "events_in" ["plant", "state"] (spEventsIn K C) := d_events_in.cal X G (fun _ _ _ _ _ _ us hl => match us, hl with | [_, _], _ => rfl) fun f fd F => ok_events_in F T L R1
    have C_state_of : Cal l.prog w K mg base 3 "state_of" ["plant", "failed", "uses", "truths"] (spStateOf K C) := d_state_of.cal X G (fun _ _ _ _ _ _ us hl => match us, hl with | [_, _, _, _], _ => rfl) fun f fd F => ok_state_of F T L R2
    have C_joining : Cal l.prog w K mg base 3 "joining" ["plant", "now", "step_before", "line"] (spJoining K C) := d_joining.cal X G (fun _ _ _ _ _ _ us hl => match us, hl with | [_, _, _, _], _ => rfl) fun f fd F => ok_joining F T L R3
    obtain ⟨fA, fdA, aA, kA, FA, bA⟩ := l_is_top.ex
    have C_is_top : Cal l.prog w K mg base 5 "is_top" ["value", "parts", "gates"] (spIsTop K T0) := ⟨fA, fdA, PySem.W.mg_of X G aA, kA, bA (fun _ _ _ _ _ _ us hl => match us, hl with | [_, _, _], _ => rfl), ok_is_top FA T TA inA (fun _ _ => rfl) (un inA) C_first_uses C_tell⟩
    obtain ⟨fB, fdB, aB, kB, FB, bB⟩ := l_truths_in.ex
    have C_truths_in : Cal l.prog w K mg base 5 "truths_in" ["plant", "state"] (spTruthsIn K C T0) := ⟨fB, fdB, PySem.W.mg_of X G aB, kB, bB (fun _ _ _ _ _ _ us hl => match us, hl with | [_, _], _ => rfl), ok_truths_in FB T L TB inB (fun _ _ => rfl) (un inB) R1 R2 C_tell⟩
    obtain ⟨fC, fdC, aC, kC, FC, bC⟩ := l_truths_now.ex
    have C_truths_now : Cal l.prog w K mg base 5 "truths_now" ["plant", "failed", "uses", "earlier"] (spTruthsNow K C T0) := ⟨fC, fdC, PySem.W.mg_of X G aC, kC, bC (fun _ _ _ _ _ _ us hl => match us, hl with | [_, _, _, _], _ => rfl), ok_truths_now FC T L TC inC (fun _ _ => rfl) (un inC) R1 R2 C_tell C_came_first⟩
    have C_after_failure : Cal l.prog w K mg base 6 "after_failure" ["plant", "state", "part"] (spAfterF K C T0) := d_after_failure.cal X G (fun _ _ _ _ _ _ us hl => match us, hl with | [_, _, _], _ => rfl) fun f fd F => ok_after_failure F T L R2 C_truths_in C_take C_truths_now C_joining C_state_of
    have C_after_mend : Cal l.prog w K mg base 6 "after_mend" ["plant", "state", "part"] (spAfterM K C T0) := d_after_mend.cal X G (fun _ _ _ _ _ _ us hl => match us, hl with | [_, _, _], _ => rfl) fun f fd F => ok_after_mend F T L R2 C_truths_in C_take C_truths_now C_state_of
    have C_after : Cal l.prog w K mg base 7 "after" ["plant", "state", "event"] (spAfter K C T0) := d_after.cal X G (fun _ _ _ _ _ _ us hl => match us, hl with | [_, _, _], _ => rfl) fun f fd F => ok_after F T C_after_mend C_after_failure
    have M__enter : C8.Met l.prog w K mg base 6 CR "_enter" (spEnter K C CR T0) [] := m__enter.met cr (ps := ["self", "state"]) (fun _ _ _ _ _ _ us hl => match us, hl with | [_, _], _ => rfl) fun f fd F => ok_enter F T L LR R4 C_truths_in
    have M_truths : C8.Met l.prog w K mg base 6 CR "truths" (spTruths K C CR T0) [] := m_truths.met cr (ps := ["self"]) (fun _ _ _ _ _ _ us hl => match us, hl with | [_], _ => rfl) fun f fd F => ok_truths F T LR C_truths_in
    have M_possible : C8.Met l.prog w K mg base 4 CR "possible" (spPossible K C CR) [] := m_possible.met cr (ps := ["self"]) (fun _ _ _ _ _ _ us hl => match us, hl with | [_], _ => rfl) fun f fd F => ok_possible F T LR C_events_in
    have M_do_all : C8.Met l.prog w K mg base 8 CR "do_all" (spDoAll K C CR T0) [] := m_do_all.met cr (ps := ["self", "events"]) (fun _ _ _ _ _ _ us hl => match us, hl with | [_, _], _ => rfl) fun f fd F => ok_do_all F T LR C_is_list C_events_in C_after M__enter
    have M_do : C8.Met l.prog w K mg base 9 CR "do" (spDo K C CR T0) [] := m_do.met cr (ps := ["self", "event"]) (fun _ _ _ _ _ _ us hl => match us, hl with | [_, _], _ => rfl) fun f fd F => ok_do F T M_do_all
    have M : MakC l.prog w K mg base 6 "Plant" C ["self", "parts", "gates", "causes", "top"] (spInit K C T0) := i_Plant.mak (h := h) (PySem.W.mg_of X G mC) (fun _ _ _ _ _ _ us hl => match us, hl with | [_, _, _, _, _], _ => rfl) fun f fd F => ok_init F T L C_are_parts C_are_gates C_are_causes C_is_top
    have MR : MakC l.prog w K mg base 7 "Run" CR ["self", "plant"] (spRunInit K C CR T0) := i_Run.mak (h := h) (PySem.W.mg_of X G mR) (fun _ _ _ _ _ _ us hl => match us, hl with | [_, _], _ => rfl) fun f fd F => ok_run_init F T LR C_beginning M__enter
    have C__law_made : Cal l.prog w K mg base 8 "_law_made" ["m"] (spMade K C T0) := d__law_made.cal X G (fun _ _ _ _ _ _ us hl => match us, hl with | [_], _ => rfl) fun f fd F => ok_law_made F T M
    have C__law_event : Cal l.prog w K mg base 4 "_law_event" ["m", "w", "deed"] (spEvent K) := d__law_event.cal X G (fun _ _ _ _ _ _ us hl => match us, hl with | [_, _, _], _ => rfl) fun f fd F => ok_law_event F T C__law_seat C__law_truths C__law_closed
    have C__law_can : Cal l.prog w K mg base 1 "_law_can" ["m", "w"] (spCan K) := d__law_can.cal X G (fun _ _ _ _ _ _ us hl => match us, hl with | [_, _], _ => rfl) fun f fd F => ok_law_can F T
    have C__law_row : Cal l.prog w K mg base 5 "_law_row" ["draw", "m", "many"] (spRow K) := d__law_row.cal X G (fun _ _ _ _ _ _ us hl => match us, hl with | [_, _, _], _ => rfl) fun f fd F => ok_law_row F T C__law_fresh C__law_can C__law_take C__law_pick C__law_event
    have C__law_led : Cal l.prog w K mg base 5 "_law_led" ["m", "row"] (spLed K) := d__law_led.cal X G (fun _ _ _ _ _ _ us hl => match us, hl with | [_, _], _ => rfl) fun f fd F => ok_led F T C__law_fresh C__law_event
    have C__law_any_event : Cal l.prog w K mg base 3 "_law_any_event" ["draw", "m", "w"] (spAnyEv K) := d__law_any_event.cal X G (fun _ _ _ _ _ _ us hl => match us, hl with | [_, _, _], _ => rfl) fun f fd F => ok_any_event F T C__law_take C__law_pick C__law_can
    have C__law_index : Cal l.prog w K mg base 6 "_law_index" ["m", "row", "some"] (spIndex K) := d__law_index.cal X G (fun _ _ _ _ _ _ us hl => match us, hl with | [_, _, _], _ => rfl) fun f fd F => ok_index F T C__law_led C__law_can C__law_event
    have C_at : Cal l.prog w K mg base 9 "at" ["plant", "state"] (spAt K C CR T0) := d_at.cal X G (fun _ _ _ _ _ _ us hl => match us, hl with | [_, _], _ => rfl) fun f fd F => ok_at F T LR MR M__enter
    have M_copy : C8.Met l.prog w K mg base 10 CR "copy" (spCopy K C CR T0) [] := m_copy.met cr (ps := ["self"]) (fun _ _ _ _ _ _ us hl => match us, hl with | [_], _ => rfl) fun f fd F => ok_copy F T LR C_at
    have N_e : FtMk l.prog w K mg base 1 "NoEvent" NE "index" := neT.mk' (PySem.W.mg_of X G mN) (PySem.W.mg_none_of X G z_super)
    have C_is_listF : Cal l.prog w K mg base 1 "is_list" ["value"] (spIsListF K) := d_is_list.cal X G (fun _ _ _ _ _ _ us hl => match us, hl with | [_], _ => rfl) fun f fd F => ok_is_listF (k := 0) F T
    have X_do_all : MetX l.prog w K mg base 8 CR "do_all" (spDoAllX K C CR NE T0) := by
      obtain ⟨f, fd, me, F⟩ := m_do_all.ex
      exact ⟨f, fd, ["self", "events"], cr, me, ok_do_allX F T LR N_e C_is_list C_is_listF C_events_in C_after M__enter, F.binds (fun _ _ _ _ _ _ us hl => match us, hl with | [_, _], _ => rfl)⟩
    have X_do : MetX l.prog w K mg base 9 CR "do" (spDoX K C CR NE T0) := by
      obtain ⟨f, fd, me, F⟩ := m_do.ex
      exact ⟨f, fd, ["self", "event"], cr, me, ok_doX F T X_do_all, F.binds (fun _ _ _ _ _ _ us hl => match us, hl with | [_, _], _ => rfl)⟩
    have XK_do : MetXK l.prog w K mg base 9 CR "do" ["event"] (spDoX K C CR NE T0) := by
      obtain ⟨f, fd, me, F⟩ := m_do.ex
      exact ⟨f, fd, ["self", "event"], cr, me, ok_doX F T X_do_all, kb_do F⟩
    have Cg : CghAt K mg NE := by
      obtain ⟨f, fd, a, F⟩ := d__law_caught.ex
      exact ⟨⟨f, fd, PySem.W.mg_of X G a, F.kp, F, F.binds (fun _ _ _ _ _ _ us hl => match us, hl with | [_], _ => rfl)⟩, neT.xf, neT.no, neT.exm, PySem.W.mg_of X G mN⟩
    have hmT : (PL, ("law.<locals>.<lambda>" : Str)) ∈ ([(PA, "is_top.<locals>.<lambda>"), (PB, "truths_in.<locals>.<lambda>"), (PC, "truths_now.<locals>.<lambda>"), (PL, "law.<locals>.<lambda>")] : List (Addr × Str)) := by simp
    have huT : ∀ p ∈ ([(PA, "is_top.<locals>.<lambda>"), (PB, "truths_in.<locals>.<lambda>"), (PC, "truths_now.<locals>.<lambda>"), (PL, "law.<locals>.<lambda>")] : List (Addr × Str)), p.1 = PL → p.2 = "law.<locals>.<lambda>" := by
      intro p hp e
      simp only [List.mem_cons, List.not_mem_nil, or_false] at hp
      rcases hp with rfl | rfl | rfl | rfl
      · exact absurd e nAL
      · exact absurd e nBL
      · exact absurd e nCL
      · rfl
    have eT2 : T0 = TTo [(PA, "is_top.<locals>.<lambda>"), (PB, "truths_in.<locals>.<lambda>"), (PC, "truths_now.<locals>.<lambda>"), (PL, "law.<locals>.<lambda>")] := eT
    clear un inA inB inC
    clear eT
    subst eT2
    exact ok_law Fo T LR L Cg TL hmT huT S_state C__law_begin C__law_take C__law_pick C__law_plant MR C__law_made C__law_row C__law_led C__law_can C__law_any_event C__law_index M_truths M_copy M_do_all X_do X_do_all XK_do
  · intro p hp
    have tt : ∀ q ∈ [(cA, PA), (cB, PB), (cC, PC), (cL, PL)], H q.2 = some (.tbl #[]) := ht
    have one : ∀ {P : Addr} {nm : Nat → Nat → Str}, H P = some (.tbl #[]) → TabN H P nm := fun e => ⟨#[], e, (by first | exact True.intro | exact .nil | (intro y hy; cases hy) | simp [TriplesOk]), fun pos cv z => by cases z⟩
    simp only [List.mem_cons, List.not_mem_nil, or_false] at hp
    rcases hp with rfl | rfl | rfl | rfl
    · exact one (tt (cA, PA) (by simp))
    · exact one (tt (cB, PB) (by simp))
    · exact one (tt (cC, PC) (by simp))
    · exact one (tt (cL, PL) (by simp))
end Kf

set_option Elab.async false
set_option linter.all false
open PySem PySem.W PyProof.Rows
set_option maxRecDepth 100000 in
set_option maxHeartbeats 0 in
theorem PySem.Challenge.cw_faultorder_k06_events_refused_holds : PySem.Challenge.rw_faultorder_k06_events_refused.Holds := by
  w_on; o_law; k_head; (case hw => w_witness2)
  k_fill
  refine Kf.walkG (l := PySem.Challenge.rw_faultorder_k06_events_refused) (n := 63) (k := 13) (x := "script") rfl rfl (by decide) ⟨rfl, by decide, by decide⟩ (fun w h Y => PySem.W.km_in_of Y) ?F
  case F =>
    intro w mg fa h Y G hmg
    refine' Kf.give_mk (PySem.W.km_in_of Y) G hmg (PySem.W.km_tabs_of Y) ?hA ?hB ?hC ?hL ?nAB ?nAC ?nBC ?nAL ?nBL ?nCL ?mC ?mR ?mN ?neT ?z_super ?d_is_name ?d_is_integer ?d_is_list ?d_all_differ ?d_is_choice ?d_is_part ?d_are_parts ?d_is_cause ?d_are_causes ?d_is_watch ?d_is_gate ?d_are_gates ?d_take ?d_first_uses ?d_gate_truth ?d__law_take ?d__law_begin ?d__law_pick ?d__law_mixed ?d__law_words ?d__law_some ?d__law_gate ?d__law_seat ?d__law_truth ?d__law_truths ?d__law_closed ?d__law_fresh ?d__law_plant ?d_came_first ?d_beginning ?d_events_in ?d_state_of ?d_joining ?d_after_failure ?d_after_mend ?d_after ?d__law_made ?d__law_event ?d__law_can ?d__law_row ?d__law_led ?d__law_any_event ?d__law_index ?d_at ?d_tell ?d__law_caught ?l_is_top ?l_truths_in ?l_truths_now ?l_law ?pg_Plant ?hd_Plant ?po_Plant ?sa_Plant ?pg_Run ?hd_Run ?po_Run ?sa_Run ?n_parts ?n_gates ?n_causes ?n_top ?n_plant ?n_state ?n_stopped ?g_parts ?g_gates ?g_causes ?g_top ?g_rstate ?i_Plant ?i_Run ?m__enter ?m_truths ?m_possible ?m_do_all ?m_do ?m_copy ?z_isinstance ?z_str ?z_int ?z_bool ?z_list ?z_tuple ?z_dict ?z_len ?z_all ?z_any ?z_range ?z_abs ?z_divmod ?z_min ?z_repr ?z_sorted ?z_enumerate ?z_zip ?z_set ?v_LETTERS ?v_MOST_LETTERS ?v_MOST_PARTS ?v_MOST_GATES ?v_MOST_CAUSES
    (case hA => exact List.mem_of_getElem? (i := 0) rfl)
    (case hB => exact List.mem_of_getElem? (i := 2) rfl)
    (case hC => exact List.mem_of_getElem? (i := 1) rfl)
    (case hL => exact List.mem_of_getElem? (i := 3) rfl)
    (case nAB => decide)
    (case nAC => decide)
    (case nBC => decide)
    (case nAL => decide)
    (case nBL => decide)
    (case nCL => decide)
    (case mC => k_is)
    (case mR => k_is)
    (case mN => k_is)
    (case neT => (refine' Kf.NEAt.of ?xL ?hbm ?sa ?exC ?tyC ?kC ?iC ?tI ?lk ?cell ?code ?vs2 ?fl ?cls ?al ?sub1 ?ve ?op ?top ?hcd ?ga ?gg ?hd ?no ?exm; (case xL => first | k_is | kernel_rfl | exact rfl | decide); (case hbm => first | exact rfl | k_is | kernel_rfl | decide); (case sa => first | k_is | kernel_rfl | exact rfl | decide); (case exC => first | k_is | kernel_rfl | exact rfl | decide); (case tyC => first | k_is | kernel_rfl | exact rfl | decide); (case kC => first | k_is | kernel_rfl | exact rfl | decide); (case iC => first | k_is | kernel_rfl | exact rfl | decide); (case tI => first | k_is | kernel_rfl | exact rfl | decide); (case lk => first | k_is | kernel_rfl | exact rfl | decide); (case cell => first | k_is | kernel_rfl | exact rfl | decide); (case code => first | k_is | kernel_rfl | exact rfl | decide); (case vs2 => first | exact rfl | k_is | kernel_rfl | decide); (case fl => first | exact rfl | k_is | kernel_rfl | decide); (case cls => first | k_is | kernel_rfl | exact rfl | decide); (case al => first | k_is | kernel_rfl | exact rfl | decide); (case sub1 => first | k_is | kernel_rfl | exact rfl | decide); (case ve => first | k_is | kernel_rfl | exact rfl | decide); (case op => first | k_is | kernel_rfl | exact rfl | decide); (case top => first | exact rfl | k_is | kernel_rfl | decide); (case hcd => first | k_is | kernel_rfl | exact rfl | decide); (case ga => first | k_is | kernel_rfl | exact rfl | decide); (case gg => first | k_is | kernel_rfl | exact rfl | decide); (case hd => first | k_is | kernel_rfl | exact rfl | decide); (case no => first | k_is | kernel_rfl | exact rfl | decide); (case exm => first | k_is | kernel_rfl | exact rfl | decide)))
    (case z_super => k_is)
    (case d_is_name => (refine' Kf.DefAt.of ?a ?l ?c ?k; (case a => k_is); (case l => k_is); (case c => k_is); (case k => k_is)))
    (case d_is_integer => (refine' Kf.DefAt.of ?a ?l ?c ?k; (case a => k_is); (case l => k_is); (case c => k_is); (case k => k_is)))
    (case d_is_list => (refine' Kf.DefAt.of ?a ?l ?c ?k; (case a => k_is); (case l => k_is); (case c => k_is); (case k => k_is)))
    (case d_all_differ => (refine' Kf.DefAt.of ?a ?l ?c ?k; (case a => k_is); (case l => k_is); (case c => k_is); (case k => k_is)))
    (case d_is_choice => (refine' Kf.DefAt.of ?a ?l ?c ?k; (case a => k_is); (case l => k_is); (case c => k_is); (case k => k_is)))
    (case d_is_part => (refine' Kf.DefAt.of ?a ?l ?c ?k; (case a => k_is); (case l => k_is); (case c => k_is); (case k => k_is)))
    (case d_are_parts => (refine' Kf.DefAt.of ?a ?l ?c ?k; (case a => k_is); (case l => k_is); (case c => k_is); (case k => k_is)))
    (case d_is_cause => (refine' Kf.DefAt.of ?a ?l ?c ?k; (case a => k_is); (case l => k_is); (case c => k_is); (case k => k_is)))
    (case d_are_causes => (refine' Kf.DefAt.of ?a ?l ?c ?k; (case a => k_is); (case l => k_is); (case c => k_is); (case k => k_is)))
    (case d_is_watch => (refine' Kf.DefAt.of ?a ?l ?c ?k; (case a => k_is); (case l => k_is); (case c => k_is); (case k => k_is)))
    (case d_is_gate => (refine' Kf.DefAt.of ?a ?l ?c ?k; (case a => k_is); (case l => k_is); (case c => k_is); (case k => k_is)))
    (case d_are_gates => (refine' Kf.DefAt.of ?a ?l ?c ?k; (case a => k_is); (case l => k_is); (case c => k_is); (case k => k_is)))
    (case d_take => (refine' Kf.DefAt.of ?a ?l ?c ?k; (case a => k_is); (case l => k_is); (case c => k_is); (case k => k_is)))
    (case d_first_uses => (refine' Kf.DefAt.of ?a ?l ?c ?k; (case a => k_is); (case l => k_is); (case c => k_is); (case k => k_is)))
    (case d_gate_truth => (refine' Kf.DefAt.of ?a ?l ?c ?k; (case a => k_is); (case l => k_is); (case c => k_is); (case k => k_is)))
    (case d__law_take => (refine' Kf.DefAt.of ?a ?l ?c ?k; (case a => k_is); (case l => k_is); (case c => k_is); (case k => k_is)))
    (case d__law_begin => (refine' Kf.DefAt.of ?a ?l ?c ?k; (case a => k_is); (case l => k_is); (case c => k_is); (case k => k_is)))
    (case d__law_pick => (refine' Kf.DefAt.of ?a ?l ?c ?k; (case a => k_is); (case l => k_is); (case c => k_is); (case k => k_is)))
    (case d__law_mixed => (refine' Kf.DefAt.of ?a ?l ?c ?k; (case a => k_is); (case l => k_is); (case c => k_is); (case k => k_is)))
    (case d__law_words => (refine' Kf.DefAt.of ?a ?l ?c ?k; (case a => k_is); (case l => k_is); (case c => k_is); (case k => k_is)))
    (case d__law_some => (refine' Kf.DefAt.of ?a ?l ?c ?k; (case a => k_is); (case l => k_is); (case c => k_is); (case k => k_is)))
    (case d__law_gate => (refine' Kf.DefAt.of ?a ?l ?c ?k; (case a => k_is); (case l => k_is); (case c => k_is); (case k => k_is)))
    (case d__law_seat => (refine' Kf.DefAt.of ?a ?l ?c ?k; (case a => k_is); (case l => k_is); (case c => k_is); (case k => k_is)))
    (case d__law_truth => (refine' Kf.DefAt.of ?a ?l ?c ?k; (case a => k_is); (case l => k_is); (case c => k_is); (case k => k_is)))
    (case d__law_truths => (refine' Kf.DefAt.of ?a ?l ?c ?k; (case a => k_is); (case l => k_is); (case c => k_is); (case k => k_is)))
    (case d__law_closed => (refine' Kf.DefAt.of ?a ?l ?c ?k; (case a => k_is); (case l => k_is); (case c => k_is); (case k => k_is)))
    (case d__law_fresh => (refine' Kf.DefAt.of ?a ?l ?c ?k; (case a => k_is); (case l => k_is); (case c => k_is); (case k => k_is)))
    (case d__law_plant => (refine' Kf.DefAt.of ?a ?l ?c ?k; (case a => k_is); (case l => k_is); (case c => k_is); (case k => k_is)))
    (case d_came_first => (refine' Kf.DefAt.of ?a ?l ?c ?k; (case a => k_is); (case l => k_is); (case c => k_is); (case k => k_is)))
    (case d_beginning => (refine' Kf.DefAt.of ?a ?l ?c ?k; (case a => k_is); (case l => k_is); (case c => k_is); (case k => k_is)))
    (case d_events_in => (refine' Kf.DefAt.of ?a ?l ?c ?k; (case a => k_is); (case l => k_is); (case c => k_is); (case k => k_is)))
    (case d_state_of => (refine' Kf.DefAt.of ?a ?l ?c ?k; (case a => k_is); (case l => k_is); (case c => k_is); (case k => k_is)))
    (case d_joining => (refine' Kf.DefAt.of ?a ?l ?c ?k; (case a => k_is); (case l => k_is); (case c => k_is); (case k => k_is)))
    (case d_after_failure => (refine' Kf.DefAt.of ?a ?l ?c ?k; (case a => k_is); (case l => k_is); (case c => k_is); (case k => k_is)))
    (case d_after_mend => (refine' Kf.DefAt.of ?a ?l ?c ?k; (case a => k_is); (case l => k_is); (case c => k_is); (case k => k_is)))
    (case d_after => (refine' Kf.DefAt.of ?a ?l ?c ?k; (case a => k_is); (case l => k_is); (case c => k_is); (case k => k_is)))
    (case d__law_made => (refine' Kf.DefAt.of ?a ?l ?c ?k; (case a => k_is); (case l => k_is); (case c => k_is); (case k => k_is)))
    (case d__law_event => (refine' Kf.DefAt.of ?a ?l ?c ?k; (case a => k_is); (case l => k_is); (case c => k_is); (case k => k_is)))
    (case d__law_can => (refine' Kf.DefAt.of ?a ?l ?c ?k; (case a => k_is); (case l => k_is); (case c => k_is); (case k => k_is)))
    (case d__law_row => (refine' Kf.DefAt.of ?a ?l ?c ?k; (case a => k_is); (case l => k_is); (case c => k_is); (case k => k_is)))
    (case d__law_led => (refine' Kf.DefAt.of ?a ?l ?c ?k; (case a => k_is); (case l => k_is); (case c => k_is); (case k => k_is)))
    (case d__law_any_event => (refine' Kf.DefAt.of ?a ?l ?c ?k; (case a => k_is); (case l => k_is); (case c => k_is); (case k => k_is)))
    (case d__law_index => (refine' Kf.DefAt.of ?a ?l ?c ?k; (case a => k_is); (case l => k_is); (case c => k_is); (case k => k_is)))
    (case d_at => (refine' Kf.DefAt.of ?a ?l ?c ?k; (case a => k_is); (case l => k_is); (case c => k_is); (case k => k_is)))
    (case d_tell => (refine' Kf.DefAt.of ?a ?l ?c ?k; (case a => k_is); (case l => k_is); (case c => k_is); (case k => k_is)))
    (case d__law_caught => (refine' Kf.DefAt.of ?a ?l ?c ?k; (case a => k_is); (case l => k_is); (case c => k_is); (case k => k_is)))
    (case l_is_top => (refine' Kf.LmdAt.of ?a ?l ?e ?k ?th ?tn; (case a => k_is); (case l => k_is); (case e => k_is); (case k => k_is); (case th => kernel_rfl); (case tn => kernel_rfl)))
    (case l_truths_in => (refine' Kf.LmdAt.of ?a ?l ?e ?k ?th ?tn; (case a => k_is); (case l => k_is); (case e => k_is); (case k => k_is); (case th => kernel_rfl); (case tn => kernel_rfl)))
    (case l_truths_now => (refine' Kf.LmdAt.of ?a ?l ?e ?k ?th ?tn; (case a => k_is); (case l => k_is); (case e => k_is); (case k => k_is); (case th => kernel_rfl); (case tn => kernel_rfl)))
    (case l_law => (refine' Kf.LmdAt.of ?a ?l ?e ?k ?th ?tn; (case a => k_is); (case l => k_is); (case e => k_is); (case k => k_is); (case th => kernel_rfl); (case tn => kernel_rfl)))
    (case pg_Plant => k_is)
    (case hd_Plant => k_is)
    (case po_Plant => k_is)
    (case sa_Plant => k_is)
    (case pg_Run => k_is)
    (case hd_Run => k_is)
    (case po_Run => k_is)
    (case sa_Run => k_is)
    (case n_parts => k_is)
    (case n_gates => k_is)
    (case n_causes => k_is)
    (case n_top => k_is)
    (case n_plant => k_is)
    (case n_state => k_is)
    (case n_stopped => k_is)
    (case g_parts => (refine' Kf.GetAt.of ?a ?b ?c ?d ?l ?e; (case a => k_is); (case b => k_is); (case c => k_is); (case d => k_is); (case l => k_is); (case e => k_is)))
    (case g_gates => (refine' Kf.GetAt.of ?a ?b ?c ?d ?l ?e; (case a => k_is); (case b => k_is); (case c => k_is); (case d => k_is); (case l => k_is); (case e => k_is)))
    (case g_causes => (refine' Kf.GetAt.of ?a ?b ?c ?d ?l ?e; (case a => k_is); (case b => k_is); (case c => k_is); (case d => k_is); (case l => k_is); (case e => k_is)))
    (case g_top => (refine' Kf.GetAt.of ?a ?b ?c ?d ?l ?e; (case a => k_is); (case b => k_is); (case c => k_is); (case d => k_is); (case l => k_is); (case e => k_is)))
    (case g_rstate => (refine' Kf.GetAt.of ?a ?b ?c ?d ?l ?e; (case a => k_is); (case b => k_is); (case c => k_is); (case d => k_is); (case l => k_is); (case e => k_is)))
    (case i_Plant => (refine' Kf.InitAt.of ?m ?a ?i ?kc ?l ?e ?k; (case m => k_is); (case a => k_is); (case i => k_is); (case kc => k_is); (case l => k_is); (case e => k_is); (case k => k_is)))
    (case i_Run => (refine' Kf.InitAt.of ?m ?a ?i ?kc ?l ?e ?k; (case m => k_is); (case a => k_is); (case i => k_is); (case kc => k_is); (case l => k_is); (case e => k_is); (case k => k_is)))
    (case m__enter => (refine' Kf.MetAt.of ?a ?i ?l ?e ?k; (case a => k_is); (case i => k_is); (case l => k_is); (case e => k_is); (case k => k_is)))
    (case m_truths => (refine' Kf.MetAt.of ?a ?i ?l ?e ?k; (case a => k_is); (case i => k_is); (case l => k_is); (case e => k_is); (case k => k_is)))
    (case m_possible => (refine' Kf.MetAt.of ?a ?i ?l ?e ?k; (case a => k_is); (case i => k_is); (case l => k_is); (case e => k_is); (case k => k_is)))
    (case m_do_all => (refine' Kf.MetAt.of ?a ?i ?l ?e ?k; (case a => k_is); (case i => k_is); (case l => k_is); (case e => k_is); (case k => k_is)))
    (case m_do => (refine' Kf.MetAt.of ?a ?i ?l ?e ?k; (case a => k_is); (case i => k_is); (case l => k_is); (case e => k_is); (case k => k_is)))
    (case m_copy => (refine' Kf.MetAt.of ?a ?i ?l ?e ?k; (case a => k_is); (case i => k_is); (case l => k_is); (case e => k_is); (case k => k_is)))
    (case z_isinstance => k_is)
    (case z_str => k_is)
    (case z_int => k_is)
    (case z_bool => k_is)
    (case z_list => k_is)
    (case z_tuple => k_is)
    (case z_dict => k_is)
    (case z_len => k_is)
    (case z_all => k_is)
    (case z_any => k_is)
    (case z_range => k_is)
    (case z_abs => k_is)
    (case z_divmod => k_is)
    (case z_min => k_is)
    (case z_repr => k_is)
    (case z_sorted => k_is)
    (case z_enumerate => k_is)
    (case z_zip => k_is)
    (case z_set => k_is)
    (case v_LETTERS => (refine' Kf.constAt ?a ?r; (case a => k_is); (case r => exact ⟨_, rfl⟩)))
    (case v_MOST_LETTERS => (refine' Kf.constAt ?a ?r; (case a => k_is); (case r => exact ⟨_, rfl⟩)))
    (case v_MOST_PARTS => (refine' Kf.constAt ?a ?r; (case a => k_is); (case r => exact ⟨_, rfl⟩)))
    (case v_MOST_GATES => (refine' Kf.constAt ?a ?r; (case a => k_is); (case r => exact ⟨_, rfl⟩)))
    (case v_MOST_CAUSES => (refine' Kf.constAt ?a ?r; (case a => k_is); (case r => exact ⟨_, rfl⟩)))
#print axioms PySem.Challenge.cw_faultorder_k06_events_refused_holds

