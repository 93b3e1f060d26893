import PyProof.Rows.All
import Wide.All
import OpenK.AllK
import Wide.FinOn
import PySem.Challenge.RW_faultorder_k02_plants_as_made
import HandS.ForMost
import HandS.WideBits
import HandS.Small
import HandS.IsInst
import HandS.TupAny
import HandS.Deep
import HandS.DictComp
import HandS.Walk
import HandS.DictTup
import HandS.Flow
import KE.KDictList
import HandS.Conv
import HandS.More
import HandS.Lambda
import HandS.Nested
import HandS.EndTab
import HandS.Property
import KE.KFmtOwn
import PyProof.InstNe
import PyProof.DictUpdate
import HandS.Style
import PyProof.ReprRoads
import PyProof.ReprBulk
import PyProof.Rows.ReprShort
import HandS.MakeKwOnly
import PyProof.P3Eq
import KE.KNestM
import KE.KLam
set_option Elab.async false
set_option linter.all false
set_option maxRecDepth 100000
set_option maxHeartbeats 2000000
namespace Kf
open PySem PySem.Spec PyProof.Rows L2
def topS (i : Nat) : Stmt := PySem.Challenge.pw_faultorder_k02_plants_as_made.main.body.getD i (.Pass ⟨0, 0, 0, 0⟩)
abbrev s_is_name : Stmt := topS 9
abbrev s_is_integer : Stmt := topS 10
abbrev s_is_list : Stmt := topS 11
abbrev s_all_differ : Stmt := topS 12
abbrev s_is_choice : Stmt := topS 13
abbrev s_is_part : Stmt := topS 14
abbrev s_are_parts : Stmt := topS 15
abbrev s_is_watch : Stmt := topS 16
abbrev s_is_gate : Stmt := topS 17
abbrev s_are_gates : Stmt := topS 18
abbrev s_is_cause : Stmt := topS 19
abbrev s_are_causes : Stmt := topS 20
abbrev s_take : Stmt := topS 21
abbrev s_first_uses : Stmt := topS 22
abbrev s_gate_truth : Stmt := topS 23
abbrev s_tell : Stmt := topS 24
abbrev s_is_top : Stmt := topS 25
abbrev s__law_begin : Stmt := topS 28
abbrev s__law_take : Stmt := topS 29
abbrev s__law_pick : Stmt := topS 30
abbrev s__law_mixed : Stmt := topS 31
abbrev s__law_words : Stmt := topS 32
abbrev s__law_some : Stmt := topS 33
abbrev s__law_gate : Stmt := topS 34
abbrev s__law_plant : Stmt := topS 35
abbrev s__law_seat : Stmt := topS 36
abbrev s__law_truth : Stmt := topS 37
abbrev s__law_truths : Stmt := topS 38
abbrev s__law_closed : Stmt := topS 39
abbrev s__law_fresh : Stmt := topS 40
abbrev s__law_made : Stmt := topS 41
abbrev s__law_tuples : Stmt := topS 42
abbrev s__law_told : Stmt := topS 43
abbrev s__law_other : Stmt := topS 44
abbrev s_law : Stmt := topS 45
abbrev s_BadPlant___init__ : Stmt := inClass (topS 2) 0
abbrev s_Plant___init__ : Stmt := inClass (topS 26) 0
abbrev s_Plant___eq__ : Stmt := inClass (topS 26) 1
abbrev s_Plant_parts : Stmt := inClass (topS 26) 2
abbrev s_Plant_gates : Stmt := inClass (topS 26) 3
abbrev s_Plant_causes : Stmt := inClass (topS 26) 4
abbrev s_Plant_top : Stmt := inClass (topS 26) 5
theorem sc_is_name : FnScope ["value", "letter"] ["value"] (defScope s_is_name) := ⟨rfl, rfl, rfl, by decide +kernel, rfl, by decide +kernel, by decide +kernel⟩
theorem sc_is_integer : FnScope ["value"] ["value"] (defScope s_is_integer) := ⟨rfl, rfl, rfl, by decide +kernel, rfl, by decide +kernel, by decide +kernel⟩
theorem sc_is_list : FnScope ["value"] ["value"] (defScope s_is_list) := ⟨rfl, rfl, rfl, by decide +kernel, rfl, by decide +kernel, by decide +kernel⟩
theorem sc_all_differ : FnScope ["values", "at"] ["values"] (defScope s_all_differ) := ⟨rfl, rfl, rfl, by decide +kernel, rfl, by decide +kernel, by decide +kernel⟩
theorem sc_is_choice : FnScope ["value", "names", "item"] ["value", "names"] (defScope s_is_choice) := ⟨rfl, rfl, rfl, by decide +kernel, rfl, by decide +kernel, by decide +kernel⟩
theorem sc_is_part : FnScope ["value"] ["value"] (defScope s_is_part) := ⟨rfl, rfl, rfl, by decide +kernel, rfl, by decide +kernel, by decide +kernel⟩
theorem sc_are_parts : FnScope ["value", "item"] ["value"] (defScope s_are_parts) := ⟨rfl, rfl, rfl, by decide +kernel, rfl, by decide +kernel, by decide +kernel⟩
theorem sc_is_watch : FnScope ["word", "rest", "parts", "names"] ["word", "rest", "parts", "names"] (defScope s_is_watch) := ⟨rfl, rfl, rfl, by decide +kernel, rfl, by decide +kernel, by decide +kernel⟩
theorem sc_is_gate : FnScope ["value", "parts", "names"] ["value", "parts", "names"] (defScope s_is_gate) := ⟨rfl, rfl, rfl, by decide +kernel, rfl, by decide +kernel, by decide +kernel⟩
theorem sc_are_gates : FnScope ["value", "parts", "names", "item"] ["value", "parts"] (defScope s_are_gates) := ⟨rfl, rfl, rfl, by decide +kernel, rfl, by decide +kernel, by decide +kernel⟩
theorem sc_is_cause : FnScope ["value", "parts", "names"] ["value", "parts", "names"] (defScope s_is_cause) := ⟨rfl, rfl, rfl, by decide +kernel, rfl, by decide +kernel, by decide +kernel⟩
theorem sc_are_causes : FnScope ["value", "parts", "names", "item"] ["value", "parts", "names"] (defScope s_are_causes) := ⟨rfl, rfl, rfl, by decide +kernel, rfl, by decide +kernel, by decide +kernel⟩
theorem sc_take : FnScope ["gates", "uses", "failed", "now", "gate", "used", "free", "part"] ["gates", "uses", "failed"] (defScope s_take) := ⟨rfl, rfl, rfl, by decide +kernel, rfl, by decide +kernel, by decide +kernel⟩
theorem sc_first_uses : FnScope ["gates", "gate"] ["gates"] (defScope s_first_uses) := ⟨rfl, rfl, rfl, by decide +kernel, rfl, by decide +kernel, by decide +kernel⟩
theorem sc_gate_truth : FnScope ["gate", "truths", "uses", "word", "name"] ["gate", "truths", "uses"] (defScope s_gate_truth) := ⟨rfl, rfl, rfl, by decide +kernel, rfl, by decide +kernel, by decide +kernel⟩
theorem sc_tell : FnScope ["parts", "gates", "failed", "uses", "before", "truths", "gate", "name", "_"] ["parts", "gates", "failed", "uses", "before"] (defScope s_tell) := ⟨rfl, rfl, rfl, by decide +kernel, rfl, by decide +kernel, by decide +kernel⟩
theorem sc_is_top : FnScope ["value", "parts", "gates", "truths", "gate"] ["value", "parts", "gates"] (defScope s_is_top) := ⟨rfl, rfl, rfl, by decide +kernel, rfl, by decide +kernel, by decide +kernel⟩
theorem sc__law_begin : FnScope ["script", "large", "cell"] ["script"] (defScope s__law_begin) := ⟨rfl, rfl, rfl, by decide +kernel, rfl, by decide +kernel, by decide +kernel⟩
theorem sc__law_take : FnScope ["draw", "size", "cell", "found"] ["draw", "size"] (defScope s__law_take) := ⟨rfl, rfl, rfl, by decide +kernel, rfl, by decide +kernel, by decide +kernel⟩
theorem sc__law_pick : FnScope ["draw", "some"] ["draw", "some"] (defScope s__law_pick) := ⟨rfl, rfl, rfl, by decide +kernel, rfl, by decide +kernel, by decide +kernel⟩
theorem sc__law_mixed : FnScope ["draw", "some", "left", "found"] ["draw", "some"] (defScope s__law_mixed) := ⟨rfl, rfl, rfl, by decide +kernel, rfl, by decide +kernel, by decide +kernel⟩
theorem sc__law_words : FnScope ["draw", "many", "menu", "found", "k", "word", "some", "j", "sign", "one"] ["draw", "many"] (defScope s__law_words) := ⟨rfl, rfl, rfl, by decide +kernel, rfl, by decide +kernel, by decide +kernel⟩
theorem sc__law_some : FnScope ["draw", "labels", "bound"] ["draw", "labels", "bound"] (defScope s__law_some) := ⟨rfl, rfl, rfl, by decide +kernel, rfl, by decide +kernel, by decide +kernel⟩
theorem sc__law_gate : FnScope ["draw", "name", "pieces", "labels", "word", "inputs"] ["draw", "name", "pieces", "labels"] (defScope s__law_gate) := ⟨rfl, rfl, rfl, by decide +kernel, rfl, by decide +kernel, by decide +kernel⟩
theorem sc__law_plant : FnScope ["draw", "most_parts", "most_gates", "most_causes", "words", "labels", "m", "k", "known", "inputs", "name", "gate"] ["draw", "most_parts", "most_gates", "most_causes"] (defScope s__law_plant) := ⟨rfl, rfl, rfl, by decide +kernel, rfl, by decide +kernel, by decide +kernel⟩
theorem sc__law_seat : FnScope ["m", "w", "gate", "free", "part"] ["m", "w"] (defScope s__law_seat) := ⟨rfl, rfl, rfl, by decide +kernel, rfl, by decide +kernel, by decide +kernel⟩
theorem sc__law_truth : FnScope ["w", "gate", "found", "begins", "inputs", "name", "truth"] ["w", "gate", "found"] (defScope s__law_truth) := ⟨rfl, rfl, rfl, by decide +kernel, rfl, by decide +kernel, by decide +kernel⟩
theorem sc__law_truths : FnScope ["m", "w", "found", "gate", "name", "kind"] ["m", "w"] (defScope s__law_truths) := ⟨rfl, rfl, rfl, by decide +kernel, rfl, by decide +kernel, by decide +kernel⟩
theorem sc__law_closed : FnScope ["m", "w", "found", "name"] ["m", "w"] (defScope s__law_closed) := ⟨rfl, rfl, rfl, by decide +kernel, rfl, by decide +kernel, by decide +kernel⟩
theorem sc__law_fresh : FnScope ["m", "w"] ["m"] (defScope s__law_fresh) := ⟨rfl, rfl, rfl, by decide +kernel, rfl, by decide +kernel, by decide +kernel⟩
theorem sc__law_made : FnScope ["m"] ["m"] (defScope s__law_made) := ⟨rfl, rfl, rfl, by decide +kernel, rfl, by decide +kernel, by decide +kernel⟩
theorem sc__law_tuples : FnScope ["m"] ["m"] (defScope s__law_tuples) := ⟨rfl, rfl, rfl, by decide +kernel, rfl, by decide +kernel, by decide +kernel⟩
theorem sc__law_told : FnScope ["made"] ["made"] (defScope s__law_told) := ⟨rfl, rfl, rfl, by decide +kernel, rfl, by decide +kernel, by decide +kernel⟩
theorem sc__law_other : FnScope ["draw", "m", "n", "way", "spot", "name", "kind", "gate"] ["draw", "m"] (defScope s__law_other) := ⟨rfl, rfl, rfl, by decide +kernel, rfl, by decide +kernel, by decide +kernel⟩
theorem sc_law : FnScope ["script", "draw", "turn", "m", "given", "made", "twin", "some", "n", "one"] ["script"] (defScope s_law) := ⟨rfl, rfl, rfl, by decide +kernel, rfl, by decide +kernel, by decide +kernel⟩
theorem sc_Plant___init__ : FnScope ["self", "parts", "gates", "causes", "top", "names", "part", "gate"] ["self", "parts", "gates", "causes", "top"] (defScope s_Plant___init__) := ⟨rfl, rfl, rfl, by decide +kernel, rfl, by decide +kernel, by decide +kernel⟩
theorem sc_Plant___eq__ : FnScope ["self", "other"] ["self", "other"] (defScope s_Plant___eq__) := ⟨rfl, rfl, rfl, by decide +kernel, rfl, by decide +kernel, by decide +kernel⟩
theorem sc_Plant_parts : FnScope ["self"] ["self"] (defScope s_Plant_parts) := ⟨rfl, rfl, rfl, by decide +kernel, rfl, by decide +kernel, by decide +kernel⟩
theorem sc_Plant_gates : FnScope ["self"] ["self"] (defScope s_Plant_gates) := ⟨rfl, rfl, rfl, by decide +kernel, rfl, by decide +kernel, by decide +kernel⟩
theorem sc_Plant_causes : FnScope ["self"] ["self"] (defScope s_Plant_causes) := ⟨rfl, rfl, rfl, by decide +kernel, rfl, by decide +kernel, by decide +kernel⟩
theorem sc_Plant_top : FnScope ["self"] ["self"] (defScope s_Plant_top) := ⟨rfl, rfl, rfl, by decide +kernel, rfl, by decide +kernel, by decide +kernel⟩
end Kf

set_option Elab.async false
set_option linter.all false
set_option maxRecDepth 100000
set_option maxHeartbeats 2000000
namespace Kf
open PySem PySem.Spec PyProof.Rows L2
/-! ### the draw -/
def dkv (L C : Addr) (r t m : Int) : List (Key × V) := [(.inr "large", .ref L), (.inr "cells", .ref C), (.inr "rest", .int r), (.inr "turn", .int t), (.inr "mix", .int m)]
theorem put_rest {L C : Addr} {r t m r' : Int} : putK (dkv L C r t m) (.inr "rest") (.int r') = dkv L C r' t m := by with_unfolding_all rfl
theorem put_turn {L C : Addr} {r t m r' : Int} : putK (dkv L C r t m) (.inr "turn") (.int r') = dkv L C r r' m := by with_unfolding_all rfl
theorem put_mix {L C : Addr} {r t m r' : Int} : putK (dkv L C r t m) (.inr "mix") (.int r') = dkv L C r t r' := by with_unfolding_all rfl
theorem val_large {L C : Addr} {r t m : Int} : valV (dkv L C r t m) (.inr "large") = some (.ref L) := by with_unfolding_all rfl
theorem val_cells {L C : Addr} {r t m : Int} : valV (dkv L C r t m) (.inr "cells") = some (.ref C) := by with_unfolding_all rfl
theorem val_rest {L C : Addr} {r t m : Int} : valV (dkv L C r t m) (.inr "rest") = some (.int r) := by with_unfolding_all rfl
theorem val_turn {L C : Addr} {r t m : Int} : valV (dkv L C r t m) (.inr "turn") = some (.int t) := by with_unfolding_all rfl
theorem val_mix {L C : Addr} {r t m : Int} : valV (dkv L C r t m) (.inr "mix") = some (.int m) := by with_unfolding_all rfl
/-- the draw at d, its large numbers at L, its cells at C -/
structure Drw (H : Hp) (d L C : Addr) (ls cs : List Int) (r t m : Int) : Prop where
  hd : H d = some (.dK (dkv L C r t m))
  hL : H L = some (.lst (ls.map V.int))
  hC : H C = some (.lst (cs.map V.int))
  ne : L ≠ C
  lpos : ∀ x ∈ ls, 0 ≤ x
  llen : ls.length ≤ 63
  clen : cs.length ≤ 63
  r0 : 0 ≤ r
  m0 : 0 ≤ m
  m1 : m < 2147483629
def Dr (H : Hp) (d L C : Addr) : Prop := ∃ ls cs r t m, Drw H d L C ls cs r t m
/-- all else is kept -/
def Kp (d L : Addr) (H H' : Hp) : Prop := ∀ b o, H b = some o → b ≠ d → b ≠ L → H' b = some o
theorem Kp.refl {d L : Addr} {H : Hp} : Kp d L H H := fun _ _ h _ _ => h
theorem Kp.trans {d L : Addr} {H H1 H2 : Hp} (a : Kp d L H H1) (b : Kp d L H1 H2) : Kp d L H H2 := fun c o h n1 n2 => b c o (a c o h n1 n2) n1 n2
theorem Kp.new {d L p : Addr} {H : Hp} {o : HO} (hp : H p = none) : Kp d L H (upd H p o) := fun b u h _ _ => by
  rw [upd_ne (ne_of_none h hp)]
  exact h
theorem Kp.dset {d L : Addr} {H : Hp} {o : HO} : Kp d L H (upd H d o) := fun b u h n _ => by
  rw [upd_ne n]
  exact h
theorem Kp.lset {d L : Addr} {H : Hp} {o : HO} : Kp d L H (upd H L o) := fun b u h _ n => by
  rw [upd_ne n]
  exact h
section
variable {H : Hp} {d L C : Addr} {ls cs : List Int} {r t m : Int}
theorem Drw.dL (D : Drw H d L C ls cs r t m) : L ≠ d := ne_of D.hL D.hd (by intro z; cases z)
theorem Drw.dC (D : Drw H d L C ls cs r t m) : C ≠ d := ne_of D.hC D.hd (by intro z; cases z)
theorem Drw.new (D : Drw H d L C ls cs r t m) {p : Addr} {o : HO} (hp : H p = none) : Drw (upd H p o) d L C ls cs r t m :=
  { D with hd := by rw [upd_ne (ne_of_none D.hd hp)]; exact D.hd, hL := by rw [upd_ne (ne_of_none D.hL hp)]; exact D.hL, hC := by rw [upd_ne (ne_of_none D.hC hp)]; exact D.hC }
theorem Drw.rest (D : Drw H d L C ls cs r t m) {r' : Int} (h : 0 ≤ r') : Drw (upd H d (.dK (putK (dkv L C r t m) (.inr "rest") (.int r')))) d L C ls cs r' t m :=
  { D with hd := by rw [upd_same, put_rest], hL := by rw [upd_ne D.dL]; exact D.hL, hC := by rw [upd_ne D.dC]; exact D.hC, r0 := h }
theorem Drw.turn (D : Drw H d L C ls cs r t m) {t' : Int} : Drw (upd H d (.dK (putK (dkv L C r t m) (.inr "turn") (.int t')))) d L C ls cs r t' m :=
  { D with hd := by rw [upd_same, put_turn], hL := by rw [upd_ne D.dL]; exact D.hL, hC := by rw [upd_ne D.dC]; exact D.hC }
theorem Drw.mix (D : Drw H d L C ls cs r t m) {m' : Int} (h0 : 0 ≤ m') (h1 : m' < 2147483629) : Drw (upd H d (.dK (putK (dkv L C r t m) (.inr "mix") (.int m')))) d L C ls cs r t m' :=
  { D with hd := by rw [upd_same, put_mix], hL := by rw [upd_ne D.dL]; exact D.hL, hC := by rw [upd_ne D.dC]; exact D.hC, m0 := h0, m1 := h1 }
theorem Drw.pop {x : Int} (D : Drw H d L C (x :: ls) cs r t m) : Drw (upd H L (.lst (ls.map V.int))) d L C ls cs r t m :=
  { D with hd := by rw [upd_ne D.dL.symm]; exact D.hd, hL := upd_same, hC := by rw [upd_ne D.ne.symm]; exact D.hC, lpos := fun y hy => D.lpos y (List.mem_cons_of_mem _ hy), llen := Nat.le_of_succ_le D.llen }
theorem Drw.gL (D : Drw H d L C ls cs r t m) : DGet H d (.str "large") (some (.ref L)) := by have q := DGet.k (k := .inr "large") D.hd; rw [val_large] at q; exact q
theorem Drw.gC (D : Drw H d L C ls cs r t m) : DGet H d (.str "cells") (some (.ref C)) := by have q := DGet.k (k := .inr "cells") D.hd; rw [val_cells] at q; exact q
theorem Drw.gR (D : Drw H d L C ls cs r t m) : DGet H d (.str "rest") (some (.int r)) := by have q := DGet.k (k := .inr "rest") D.hd; rw [val_rest] at q; exact q
theorem Drw.gT (D : Drw H d L C ls cs r t m) : DGet H d (.str "turn") (some (.int t)) := by have q := DGet.k (k := .inr "turn") D.hd; rw [val_turn] at q; exact q
theorem Drw.gM (D : Drw H d L C ls cs r t m) : DGet H d (.str "mix") (some (.int m)) := by have q := DGet.k (k := .inr "mix") D.hd; rw [val_mix] at q; exact q
theorem Drw.sz : (dkv L C r t m).length < sizeLine := small1000 (by show 5 ≤ 1000; decide)
theorem Drw.pR (D : Drw H d L C ls cs r t m) (v : V) : DPut H d (.str "rest") v (upd H d (.dK (putK (dkv L C r t m) (.inr "rest") v))) := DPut.k (k := .inr "rest") D.hd Drw.sz
theorem Drw.pT (D : Drw H d L C ls cs r t m) (v : V) : DPut H d (.str "turn") v (upd H d (.dK (putK (dkv L C r t m) (.inr "turn") v))) := DPut.k (k := .inr "turn") D.hd Drw.sz
theorem Drw.pM (D : Drw H d L C ls cs r t m) (v : V) : DPut H d (.str "mix") v (upd H d (.dK (putK (dkv L C r t m) (.inr "mix") v))) := DPut.k (k := .inr "mix") D.hd Drw.sz
end
theorem dpAll_ints {K : PySem.W.Frag} {H : Hp} : ∀ ns : List Int, DpAll K H (ns.map V.int) (ns.map PyData.int)
  | [] => .nil
  | n :: r => .cons (.int n) (dpAll_ints r)
theorem canAll_ints : ∀ ns : List Int, PyData.canLayAll0 (ns.map PyData.int) = true
  | [] => by simp [PyData.canLayAll0]
  | n :: r => by simp [PyData.canLayAll0, PyData.canLay0, canAll_ints r]
theorem depthAll_ints : ∀ ns : List Int, PyData.depthAll (ns.map PyData.int) ≤ 1
  | [] => by simp [PyData.depthAll]
  | n :: r => by
    have := depthAll_ints r
    simp [PyData.depthAll, PyData.depth]
    omega
theorem shaped_ints (ns : List Int) : SeqAt.shaped (.list (ns.map PyData.int)) = true := by
  have h1 := canAll_ints ns
  have h2 := depthAll_ints ns
  simp [SeqAt.shaped, PyData.canLay0, PyData.depth, h1]
  omega
theorem eqv_nil : ∀ ns : List Int, PyData.eqv (.list (ns.map PyData.int)) (.list []) = ns.isEmpty
  | [] => by simp [PyData.eqv, PyData.eqvAll]
  | n :: r => by simp [PyData.eqv, PyData.eqvAll]
/-- draw[size] taken: any number below size -/
def spTake : Sp := fun vs H Q _ => ∃ (d L C : Addr) (n : Int), vs = [.ref d, .int n] ∧ Dr H d L C ∧ 0 < n ∧ n < 1073741824 ∧ ∀ H' k, Dr H' d L C → Kp d L H H' → 0 ≤ k → k < n → Q (.int k) H'
/-- what is known between two statements, said once -/
theorem seq_of {t u : TS} {D : Ends} {σ : L2.St} {H : Hp} (Pv : L2.St → Hp → Prop) (h : ∀ σ' H', Pv σ' H' → u D σ' H') (g : (∀ σ' H', Pv σ' H' → u D σ' H') → t { D with nx := u D } σ H) : tSeq t u D σ H := g h
section
variable {P : Program} {w : World} {K : PySem.W.Frag} {mg : Str → Option Value} {base : Heap}
theorem ok_take {f : Addr} {fd : FuncData} {k : Nat} (F : Fun K "_law_take" "_law_take" s__law_take f fd) (mi : mg "int" = none) (mdv : mg "divmod" = none) : FnOk P w K mg base CX0 (k + 1) f fd ["draw", "size"] spTake := by
  refine F.ok sc__law_take (fun vs H Q E h => ?_) (fun cdv A outer s H vs Q E hr h => ?_)
  · obtain ⟨d, L, C, n, rfl, _⟩ := h
    rfl
  · obtain ⟨d, L, C, n, rfl, ⟨ls, cs, r, t, m, D⟩, hn0, hn1, q⟩ := h
    have hu := hu_of hr
    have hu64 := hr.units
    refine ⟨_, pss_cons (ps_if (PW.pt (pw_and (pt_cmpR op_eq (pe_dget hu (pv 0) pe_str (fun _ _ => rfl)) pe_int (nomark _)) (pw_and1 (pt_cmpR (op_neD hu64) (pe_dget hu (pv 0) pe_str (fun _ _ => rfl)) (pe_lst pa_nil) (nomark _)))))
        (pss_one (ps_dput hu (pv 0) pe_str (pe_bm PySem.F.plainAttrs_list PySem.F.slot_list_pop PySem.F.type_list_pop mt_popAt (pe_dget hu (pv 0) pe_str (fun _ _ => rfl)) (pa_cons pe_int pa_nil)) rfl))
        (pss_one (ps_if (pt_cmpR op_eq (pe_dget hu (pv 0) pe_str (fun _ _ => rfl)) pe_int (nomark _))
          (pss_cons (ps_dput hu (pv 0) pe_str (pe_op op_add (pe_dget hu (pv 0) pe_str (fun _ _ => rfl)) pe_int) rfl)
          (pss_cons (ps_for PassesOwn.never rfl (pi_list (pe_op op_cat (pe_lst (pa_cons (pe_dget hu (pv 0) pe_str (fun _ _ => rfl)) pa_nil)) (pe_dget hu (pv 0) pe_str (fun _ _ => rfl)))) (pg_name (i := 2) sc__law_take.nd rfl (.inl rfl))
            (pss_one (ps_dput hu (pv 0) pe_str (pe_op op_mod (pe_callTy call_int1 (by rfl) mi (by decide +kernel) (pa_cons (pe_op op_add (pe_op op_add (pe_op op_mul (pe_dget hu (pv 0) pe_str (fun _ _ => rfl)) pe_int) (pe_op op_mul (pv 2) pe_int)) pe_int) pa_nil)) pe_int) rfl)))
          (pss_one (ps_dput hu (pv 0) pe_str (pe_op op_mod (pe_callTy call_int1 (by rfl) mi (by decide +kernel) (pa_cons (pe_op op_pow (pe_dget hu (pv 0) pe_str (fun _ _ => rfl)) pe_int) pa_nil)) pe_int) rfl))))
          pss_nil)))
      (pss_cons (ps_asg (pe_callB call_divmod (by rfl) mdv (by decide +kernel) (pa_cons (pe_dget hu (pv 0) pe_str (fun _ _ => rfl)) (pa_cons (pv 1) pa_nil))) (pg_tup rfl (pgs_cons (pg_sub (pv 0) pe_str (set_dict hu)) (pgs_cons (pg_name (i := 3) sc__law_take.nd rfl (.inl rfl)) pgs_nil))))
      (pss_one (ps_ret (pv 3)))), ?_⟩
    refine seq_of (fun σ' H1 => ∃ y2 y3 ls r t m, σ' = [some (.ref d), some (.int n), y2, y3] ∧ Drw H1 d L C ls cs r t m ∧ Kp d L H H1) (fun σ' H1 p => ?_) (fun fin => ?_)
    · obtain ⟨y2, y3, ls, r, t, m, rfl, D, kp⟩ := p
      refine ⟨.ref d, rfl, d, .int r, rfl, D.gR, .int n, rfl, r, n, rfl, ⟨hn0, hn1⟩, fun p np => ?_⟩
      have D1 := D.new (o := .tup [.int (r / n), .int (r % n)]) np
      have h0 : 0 ≤ r / n := Int.ediv_nonneg D.r0 (Int.le_of_lt hn0)
      refine ⟨p, [.int (r / n), .int (r % n)], rfl, .of upd_same, rfl, .int (r / n), _, rfl, ⟨.ref d, rfl, d, _, rfl, D1.pR _, .int (r % n), [], rfl, rfl, .int (r % n), rfl, ?_⟩⟩
      exact q _ _ ⟨_, _, _, _, _, D1.rest h0⟩ ((kp.trans (Kp.new np)).trans Kp.dset) (Int.emod_nonneg _ (by omega)) (Int.emod_lt_of_pos _ hn0)
    · refine ⟨.ref d, rfl, d, .int r, rfl, D.gR, rfl, _, rfl, ite2 (fun e => ?_) (fun e => ?_)⟩
      · -- rest is 0: are there large numbers?
        have er : r = 0 := V.int.inj (of_decide_eq_true e)
        subst er
        refine ⟨.ref d, rfl, d, .ref L, rfl, D.gL, Nat.zero_le _, fun p np => ?_⟩
        have D1 := D.new (o := .lst []) np
        have k1 : Kp d L H (upd H p (.lst [])) := Kp.new np
        refine ⟨.list (ls.map PyData.int), .list [], .lst (.of D1.hL) (dpAll_ints ls), .lst (.of upd_same) .nil, shaped_ints ls, shaped_ints [], ?_⟩
        rw [eqv_nil]
        refine ⟨_, rfl, ite2 (fun e => ?_) (fun e => ?_)⟩
        · -- the first of them is taken
          obtain ⟨x, xs, rfl⟩ : ∃ x xs, ls = x :: xs := by
            cases ls with
            | nil => simp at e
            | cons x xs => exact ⟨x, xs, rfl⟩
          have nd : d ≠ L := D1.dL.symm
          refine ⟨.ref d, rfl, d, .ref L, rfl, D1.gL, .inl ⟨rfl, _, .of D1.hL⟩, L, _, 0, 0, .int x, rfl, rfl, D1.hL, by decide, by decide, ?_, rfl, ?_⟩
          · exact PySem.StrLaws.seqIndex_nonneg (by decide) (by rw [List.length_map, List.length_cons]; omega)
          · have e0 : ((x :: xs).map V.int).eraseIdx 0 = xs.map V.int := rfl
            rw [e0]
            have D2 := D1.pop
            refine ⟨.ref d, rfl, d, _, rfl, D2.pR _, fin _ _ ⟨_, _, xs, x, t, m, rfl, D2.rest (D.lpos x (List.mem_cons_self ..)), (k1.trans Kp.lset).trans Kp.dset⟩⟩
        · -- a new turn
          refine ⟨.ref d, rfl, d, .int 0, rfl, D1.gR, rfl, _, rfl, ite2 (fun e => ?_) (fun e => ?_)⟩
          · refine ⟨.ref d, rfl, d, .int t, rfl, D1.gT, t, 1, rfl, rfl, .ref d, rfl, d, _, rfl, D1.pT _, ?_⟩
            have D2 := D1.turn (t' := t + 1)
            have k2 := k1.trans (Kp.dset (d := d) (L := L) (o := .dK (putK (dkv L C 0 t m) (.inr "turn") (.int (t + 1)))))
            refine ⟨.ref d, rfl, d, .int (t + 1), rfl, D2.gT, (by show 1 ≤ sizeLine; decide), fun l nl => ?_⟩
            have D3 := D2.new (o := .lst [.int (t + 1)]) nl
            have k3 := k2.trans (Kp.new (o := .lst [.int (t + 1)]) nl)
            refine ⟨.ref d, rfl, d, .ref C, rfl, D3.gC, l, C, _, _, rfl, rfl, upd_same, D3.hC, ?_, fun c nc => ?_⟩
            · have := D.clen
              rw [List.length_map, sizeLine_eq]
              show 1 + cs.length ≤ 16777216
              omega
            have D4 := D3.new (o := .lst ([V.int (t + 1)] ++ cs.map V.int)) nc
            have k4 := k3.trans (Kp.new (o := .lst ([V.int (t + 1)] ++ cs.map V.int)) nc)
            have nd : c ≠ d := (ne_of_none D3.hd nc).symm
            refine ⟨c, rfl, ⟨_, .of upd_same⟩, for_list (xs := [V.int (t + 1)] ++ cs.map V.int) (fun i σ H2 => ∃ y2 y3 m', σ = [some (.ref d), some (.int n), y2, y3] ∧ Drw H2 d L C ls cs 0 (t + 1) m' ∧ Kp d L H H2 ∧ H2 c = some (.lst ([V.int (t + 1)] ++ cs.map V.int)))
              ⟨_, _, m, rfl, D4, k4, upd_same⟩ (fun i σ H2 _ p => ?_) (fun i x σ H2 hx p => ?_) (fun σ H2 p => ?_)⟩
            · obtain ⟨_, _, _, _, _, _, hc⟩ := p
              exact .of hc
            · obtain ⟨y2, y3, m', rfl, D5, k5, hc⟩ := p
              have ex : ∃ z : Int, x = .int z := by
                have hm := List.mem_of_getElem? hx
                rcases List.mem_append.mp hm with h | h
                · exact ⟨_, List.mem_singleton.mp h⟩
                · obtain ⟨z, _, e⟩ := List.mem_map.mp h
                  exact ⟨z, e.symm⟩
              obtain ⟨z, rfl⟩ := ex
              refine ⟨.ref d, rfl, d, .int m', rfl, D5.gM, m', 69621, rfl, rfl, .inr ⟨by decide, by decide⟩, .int z, rfl, z, 48271, rfl, rfl, .inr ⟨by decide, by decide⟩, _, _, rfl, rfl, _, 12345, rfl, rfl, .inl ⟨_, rfl, _, 2147483629, rfl, rfl, by show (0 : Int) < 2147483629; decide, .ref d, rfl, d, _, rfl, D5.pM _, ?_⟩⟩
              exact ⟨_, _, _, rfl, D5.mix (Int.emod_nonneg _ (by decide)) (Int.emod_lt_of_pos _ (by decide)), k5.trans Kp.dset, by rw [upd_ne nd]; exact hc⟩
            · obtain ⟨y2, y3, m', rfl, D5, k5, _⟩ := p
              have h0 := D5.m0
              have h1 := D5.m1
              refine ⟨.ref d, rfl, d, .int m', rfl, D5.gM, m', 5, rfl, rfl, ⟨by decide, by decide, by omega⟩, .inl ⟨_, rfl, _, 2305843009213693951, rfl, rfl, by show (0 : Int) < 2305843009213693951; decide, .ref d, rfl, d, _, rfl, D5.pR _, fin _ _ ⟨_, _, ls, _, _, _, rfl, D5.rest (Int.emod_nonneg _ (by decide)), k5.trans Kp.dset⟩⟩⟩
          · exact absurd (decide_eq_true rfl) e
      · refine ⟨.ref d, rfl, d, .int r, rfl, D.gR, rfl, _, rfl, ite2 (fun e2 => absurd e2 e) (fun e2 => ?_)⟩
        exact fin _ _ ⟨_, _, ls, r, t, m, rfl, D, Kp.refl⟩

/-! ### the beginning -/
/-- a draw from a list of ints -/
def spBegin (K : PySem.W.Frag) : Sp := fun vs H Q _ => ∃ (a : Addr) (ns : List Int), vs = [.ref a] ∧ SqL K H a (ns.map V.int) ∧ ns.length ≤ 63 ∧ ∀ H' d L C, Dr H' d L C → (∀ b o, H b = some o → H' b = some o) → H d = none → H L = none → H C = none → Q (.ref d) H'
theorem ok_begin {f : Addr} {fd : FuncData} {k : Nat} (F : Fun K "_law_begin" "_law_begin" s__law_begin f fd) (ma : mg "abs" = none) (ml : mg "list" = none) : FnOk P w K mg base CX0 (k + 1) f fd ["script"] (spBegin K) := by
  refine F.ok sc__law_begin (fun vs H Q E h => ?_) (fun cdv A outer s H vs Q E hr h => ?_)
  · obtain ⟨a, ns, rfl, _⟩ := h
    rfl
  · obtain ⟨a, ns, rfl, hS, hlen, q⟩ := h
    refine ⟨_, pss_cons (ps_setLc (i := 1) (own := [("cell", 2)]) (g := gName 2) (by rfl) sc__law_begin.nd rfl rfl (sw_true rfl rfl rfl (by decide +kernel)) (pi_list (pv 0)) (blkOk_by (own := [("cell", 2)]) (N := ["script", "large", "cell"]) (sc := defScope s__law_begin) (by decide +kernel))
          (fun _ _ _ _ _ => pg_name (i := 2) sc__law_begin.nd rfl (Or.inl rfl))
          (fun _ _ _ _ _ => pts_one (pt_cmpR op_ge (pe_callB call_abs (by rfl) ma (by decide +kernel) (pa_cons (pv 2) pa_nil)) (pe_op op_pow pe_int pe_int) (nomark _)))
          (fun _ _ _ _ _ => pe_callB call_abs (by rfl) ma (by decide +kernel) (pa_cons (pv 2) pa_nil)))
      (pss_one (ps_ret (pe_disp (pps_cons pe_str (pv 1) (pps_cons pe_str (pe_callTy call_list_of (by rfl) ml (by decide +kernel) (pa_cons (pv 0) pa_nil)) (pps_cons pe_str pe_int (pps_cons pe_str pe_int (pps_cons pe_str pe_int pps_nil))))) (by rfl) (by rfl) (fun z => by cases z) (by decide)))), ?_⟩
    refine ⟨.ref a, rfl, a, rfl, ⟨_, hS⟩, fun D nD => ?_⟩
    have aD : ∀ {H2 : Hp}, Same H H2 → SqL K H2 a (ns.map V.int) := fun sm => sm.seq hS
    refine lc_list (xs := ns.map V.int) (fun i H2 => Same H H2 ∧ ∃ ls : List Int, H2 D = some (.lst (ls.map V.int)) ∧ (∀ x ∈ ls, 0 ≤ x) ∧ ls.length ≤ i) ⟨?_, [], upd_same, fun x hx => (by cases hx), Nat.le_refl _⟩ (fun i H2 _ p => aD p.1) (fun i x H2 hx p => ?_) (fun H2 p => ?_)
    · intro b o e
      rw [upd_ne (ne_of_none e nD)]
      exact e
    · obtain ⟨sm, ls, hD, hpos, hl⟩ := p
      obtain ⟨z, _, rfl⟩ := List.mem_map.mp (List.mem_of_getElem? hx)
      have hi : i < ns.length := by
        have := (List.getElem?_eq_some_iff.mp hx).1
        rw [List.length_map] at this
        exact this
      refine ⟨rfl, .int z, rfl, z, rfl, 10, 18, rfl, rfl, ⟨by decide, by decide, by decide⟩, _, _, rfl, rfl, _, rfl, ite2 (fun e => ?_) (fun e => ?_)⟩
      · refine ⟨.int z, rfl, z, rfl, _, hD, ?_, ?_, ls ++ [if z < 0 then -z else z], ?_, fun x hx => ?_, ?_⟩
        · rw [List.length_map, sizeLine_eq]
          omega
        · intro b o e
          rw [upd_ne (ne_of_none e nD)]
          exact sm b o e
        · rw [upd_same, List.map_append]
          rfl
        · rcases List.mem_append.mp hx with h | h
          · exact hpos x h
          · rw [List.mem_singleton.mp h]
            split <;> omega
        · rw [List.length_append]
          show ls.length + 1 ≤ i + 1
          omega
      · exact ⟨sm, ls, hD, hpos, Nat.le_succ_of_le hl⟩
    · obtain ⟨sm, ls, hD, hpos, hl⟩ := p
      rw [List.length_map] at hl
      intro d nd
      have hDd : D ≠ d := ne_of_none hD nd
      have s1 : Same H2 (upd H2 d (.dK [])) := fun b o e => by
        rw [upd_ne (ne_of_none e nd)]
        exact e
      have aH : SqL K (upd H2 d (.dK [])) a (ns.map V.int) := s1.seq (sm.seq hS)
      refine ⟨.ref D, rfl, .ref a, rfl, a, _, rfl, .inl aH, fun C nC => ?_⟩
      have hCd : d ≠ C := ne_of_none (upd_same (H := H2) (a := d)) nC
      have nC2 : H2 C = none := by
        rw [upd_ne hCd.symm] at nC
        exact nC
      have hDC : D ≠ C := ne_of_none hD nC2
      refine ⟨by rw [upd_ne hCd, upd_same], [(.inr "large", .ref D), (.inr "cells", .ref C), (.inr "rest", .int 0), (.inr "turn", .int 0), (.inr "mix", .int 7)], rfl, by show 5 ≤ 15; decide, ?_⟩
      have em : mergeK [] [((.inr "large" : Key), V.ref D), (.inr "cells", .ref C), (.inr "rest", .int 0), (.inr "turn", .int 0), (.inr "mix", .int 7)] = dkv D C 0 0 7 := by with_unfolding_all rfl
      rw [em]
      refine q _ d D C ⟨ls, ns, 0, 0, 7, ⟨upd_same, ?_, ?_, hDC, hpos, by omega, hlen, by decide, by decide, by decide⟩⟩ (fun b o e => ?_) ?_ nD ?_
      · rw [upd_ne hDd, upd_ne hDC, upd_ne hDd]
        exact hD
      · rw [upd_ne hCd.symm, upd_same]
      · have e2 := sm b o e
        rw [upd_ne (ne_of_none e2 nd), upd_ne (ne_of_none e2 nC2), upd_ne (ne_of_none e2 nd)]
        exact e2
      · exact sm.free nd
      · exact sm.free nC2
/-! ### one of some -/
/-- some[draw] -/
def spPick (K : PySem.W.Frag) : Sp := fun vs H Q _ => ∃ (d L C a : Addr) (xs : List V), vs = [.ref d, .ref a] ∧ Dr H d L C ∧ a ≠ L ∧ SqL K H a xs ∧ 0 < xs.length ∧ xs.length < 1000 ∧ ∀ H' x, Dr H' d L C → Kp d L H H' → x ∈ xs → Q x H'
theorem Kp.seq {d L a : Addr} {H H' : Hp} {xs : List V} {C : Addr} (kp : Kp d L H H') (D : Dr H d L C) (n : a ≠ L) (h : SqL K H a xs) : SqL K H' a xs := by
  obtain ⟨ls, cs, r, t, m, D⟩ := D
  rcases h with (h | ⟨o, h⟩) | h
  · exact .inl (.inl (kp _ _ h (ne_of h D.hd (by intro z; cases z)) n))
  · exact .inl (.inr ⟨o, kp _ _ h (ne_of h D.hd (by intro z; cases z)) n⟩)
  · exact .inr h
theorem ok_pick {f fT : Addr} {fd fdT : FuncData} {k : Nat} (F : Fun K "_law_pick" "_law_pick" s__law_pick f fd) (GT : FnOk P w K mg base CX0 k fT fdT ["draw", "size"] spTake) (bT : Binds K fdT ["draw", "size"] []) (kT : PySem.W.keepIn K (.ref fT) = true) (gT : mg "_law_take" = some (.ref fT)) (ml : mg "len" = none) :
    FnOk P w K mg base CX0 (k + 1) f fd ["draw", "some"] (spPick K) := by
  refine F.ok sc__law_pick (fun vs H Q E h => ?_) (fun cdv A outer s H vs Q E hr h => ?_)
  · obtain ⟨d, L, C, a, xs, rfl, _⟩ := h
    rfl
  · obtain ⟨d, L, C, a, xs, rfl, D, n, hS, h0, h1, q⟩ := h
    refine ⟨_, pss_one (ps_ret (pe_ix ix_list (pv 1) (pe_call GT hr (by rfl) gT kT bT .nil pass0 (pa_cons (pv 0) (pa_cons (pe_callB call_len_seq (by rfl) ml PySem.boot_len (pa_cons (pv 1) pa_nil)) pa_nil))) (fun _ _ => rfl))), ?_⟩
    refine ⟨.ref a, rfl, .ref d, rfl, .ref a, rfl, a, xs, rfl, .inl hS, d, L, C, xs.length, rfl, D, by omega, by omega, fun H' k D' kp hk0 hk1 => ?_⟩
    obtain ⟨j, rfl⟩ : ∃ j : Nat, k = (j : Int) := ⟨k.toNat, by omega⟩
    have hj : j < xs.length := by omega
    refine ⟨a, xs, _, xs[j], rfl, rfl, kp.seq D n hS, atI_nat (List.getElem?_eq_getElem hj), q _ _ D' kp (List.getElem_mem hj)⟩
end
end Kf

set_option Elab.async false
set_option linter.all false
set_option maxRecDepth 100000
set_option maxHeartbeats 2000000
namespace Kf
open PySem PySem.Spec PyProof.Rows L2
/-! ### calls by a bundle, constants of the module -/
structure Cal (P : Program) (w : World) (K : PySem.W.Frag) (mg : Str → Option Value) (base : Heap) (k : Nat) (x : Str) (ps : List Str) (sp : Sp) : Prop where
  ex : ∃ f fd, mg x = some (.ref f) ∧ PySem.W.keepIn K (.ref f) = true ∧ Binds K fd ps [] ∧ FnOk P w K mg base CX0 k f fd ps sp
section
variable {X : Cx} {j k : Nat} {x : Str} {ps : List Str} {sp : Sp} {p pos : Pos} {e : Expr} {es : List Expr} {t : TA}
theorem pe_cal (C : Cal X.prog X.w X.K X.mg X.base k x ps sp) (hk : k ≤ j) (hr : Room j X.A) (hg : Gl X x) (ha : PA X (e :: es) t) (hdb : (x == ("__debug__" : Str)) = false := by decide)
    (he : starEach (e :: es) X.env = (false, eval e X.env) :: starEach es X.env := by rfl) (hpl : (backTo pos (starEach es X.env)).any (·.1) = false := by rfl) : PE X (.Call (.Name x p) (e :: es) [] pos) (tCall sp [] E0 t) := by
  obtain ⟨f, fd, m, kp, b, F⟩ := C.ex
  exact pe_call F (hr.mono hk) hg m kp b .nil pass0 ha hdb he hpl
def GC (mg : Str → Option Value) (x : Str) (v : V) : Prop := ∃ u, mg x = some u ∧ RelV v u
theorem pe_gc {v : V} (hg : Gl X x) (h : GC X.mg x v) (hd : (x == ("__debug__" : Str)) = false := by decide) : PE X (.Name x pos) (tC v) := by
  obtain ⟨u, m, r⟩ := h
  exact pe_glob hg m r hd
end
/-! ### lists and tuples alike -/
def Sq (K : PySem.W.Frag) (H : Hp) (a : Addr) (xs : List V) : Prop := SqL K H a xs ∨ SqT K H a xs
def Sqb (b : Bool) (K : PySem.W.Frag) (H : Hp) (a : Addr) (xs : List V) : Prop := if b = true then SqL K H a xs else SqT K H a xs
def Itb (b : Bool) (K : PySem.W.Frag) (a : Addr) : It := if b = true then Itl K a else Itt K a
theorem Sq.b {K : PySem.W.Frag} {H : Hp} {a : Addr} {xs : List V} (h : Sq K H a xs) : ∃ b, Sqb b K H a xs := by
  rcases h with h | h
  · exact ⟨true, h⟩
  · exact ⟨false, h⟩
theorem Sqb.s {b : Bool} {K : PySem.W.Frag} {H : Hp} {a : Addr} {xs : List V} (h : Sqb b K H a xs) : Sq K H a xs := by
  cases b with
  | true => exact .inl h
  | false => exact .inr h
theorem walk_sq {b : Bool} {K : PySem.W.Frag} {a : Addr} {xs : List V} : Walk (Itb b K a) xs.length (fun H => Sqb b K H a xs) (YAt xs) := by
  cases b with
  | true => exact walk_list
  | false => exact walk_tup
theorem Same.sqt {K : PySem.W.Frag} {H H' : Hp} {a : Addr} {xs : List V} (e : Same H H') (h : SqT K H a xs) : SqT K H' a xs := by
  rcases h with (h | ⟨o, h⟩) | h
  · exact .inl (.inl (e _ _ h))
  · exact .inl (.inr ⟨o, e _ _ h⟩)
  · exact .inr h
theorem Same.sq {K : PySem.W.Frag} {H H' : Hp} {a : Addr} {xs : List V} (e : Same H H') (h : Sq K H a xs) : Sq K H' a xs := by
  rcases h with h | h
  · exact .inl (e.seq h)
  · exact .inr (Same.sqt e h)
theorem Same.sqb {b : Bool} {K : PySem.W.Frag} {H H' : Hp} {a : Addr} {xs : List V} (e : Same H H') (h : Sqb b K H a xs) : Sqb b K H' a xs := by
  cases b with
  | true => exact e.seq h
  | false => exact Same.sqt e h
theorem Same.new {H : Hp} {p : Addr} {o : HO} (h : H p = none) : Same H (upd H p o) := fun b u e => by
  rw [upd_ne (ne_of_none e h)]
  exact e
/-- a write at a place that is new -/
theorem Same.at {H H' : Hp} {p : Addr} {o : HO} (s : Same H H') (h : H p = none) : Same H (upd H' p o) := fun b u e => by
  rw [upd_ne (ne_of_none e h)]
  exact s b u e
section
variable {X : Cx} {tg : Expr}
def iSq (K : PySem.W.Frag) (tl : TE) : TI := fun σ H R => tl σ H fun x H1 => ∃ a b, x = .ref a ∧ (∃ xs, Sqb b K H1 a xs) ∧ R (Itb b K a) H1
theorem pi_sq {l : Expr} {tl : TE} (hl : PE X l tl) : PI X tg l (iSq X.K tl) := by
  refine ⟨fun pins s σ H R I h => ?_⟩
  refine thn (hl.run pins s σ H _ I h) fun v s1 ⟨x, H1, I1, r1, q1⟩ => ?_
  obtain ⟨a, b, e, ⟨xs, hq⟩, q⟩ := q1
  subst e
  cases r1
  cases b with
  | true =>
    have hq : SqL X.K H1 a xs := hq
    obtain ⟨its, rv, p, hz⟩ := I1.list hq
    refine wpAny_pyIter_list p.isList ?_
    refine ⟨s1.heap.objs.size, [s1.heap.objs.size], _, _, H1, rfl, I1.kept (t' := s1.toks) fun b o e => Heap.get?_push_of_some _ e, turn_list a _, ⟨_, Heap.get?_push_size _ rfl, rfl, rfl⟩, fun b hb => ?_, q⟩
    have e : b = s1.heap.objs.size := by simpa using hb
    subst e
    exact I1.fpOk (Nat.le_refl _) (I1.hok.fresh (Nat.le_refl _))
  | false =>
    have hq : SqT X.K H1 a xs := hq
    obtain ⟨its, rv, p, hz⟩ := I1.tuple hq
    refine wpAny_pyIter_tuple (show s1.heap.IsTuple a its.toArray from p) ?_
    refine ⟨s1.heap.objs.size, [s1.heap.objs.size], _, _, H1, rfl, I1.kept (t' := s1.toks) fun b o e => Heap.get?_push_of_some _ e, turn_tuple a _, ⟨_, Heap.get?_push_size _ rfl, rfl, rfl⟩, fun b hb => ?_, q⟩
    have e : b = s1.heap.objs.size := by simpa using hb
    subst e
    exact I1.fpOk (Nat.le_refl _) (I1.hok.fresh (Nat.le_refl _))
def rIxQ (K : PySem.W.Frag) : R2 := fun x y H Q => ∃ p xs i v, x = .ref p ∧ y = .int i ∧ Sq K H p xs ∧ atI xs i = some v ∧ Q v H
theorem ix_sq : IxR X (rIxQ X.K) := by
  intro value slice pins s σ H x y v u Q I rx ry q hs
  obtain ⟨p, xs, i, v0, e1, e2, h, a, q⟩ := q
  rcases h with h | h
  · exact ix_list value slice pins s σ H x y v u Q I rx ry ⟨p, xs, i, v0, e1, e2, h, a, q⟩ hs
  · exact ix_tup value slice pins s σ H x y v u Q I rx ry ⟨p, xs, i, v0, e1, e2, h, a, q⟩ hs
def rSlQ (K : PySem.W.Frag) : V → Option Int → Option Int → Hp → VK → Prop := fun x lo hi H Q => rSlL K x lo hi H Q ∨ rSlA K x lo hi H Q
theorem sl_sq : SlR X (rSlQ X.K) := sl_list.or sl_tupA
theorem ix_sqK {K : PySem.W.Frag} (h : X.K = K) : IxR X (rIxQ K) := h ▸ ix_sq
theorem op_inK {K : PySem.W.Frag} (h : X.K = K) : OpR X (compareOp .In) (rIn K false) := h ▸ op_in_seq
theorem op_notInK {K : PySem.W.Frag} (h : X.K = K) : OpR X (compareOp .NotIn) (rIn K true) := h ▸ op_notIn_seq
theorem call_lenK {K : PySem.W.Frag} (h : X.K = K) : CallR X (.builtin "len") (fun xs H Q => ∃ p ys, xs = [.ref p] ∧ Sq K H p ys ∧ Q (.int ys.length) H) := h ▸ call_len_seq
theorem sl_sqK {K : PySem.W.Frag} (h : X.K = K) : SlR X (rSlQ K) := h ▸ sl_sq
end
/-- a slice of a list or a tuple: what it holds is readable behind it -/
theorem rSlQ.of {K : PySem.W.Frag} {a : Addr} {xs : List V} {lo hi : Option Int} {H : Hp} {Q : VK} (h : Sq K H a xs) (q : ∀ p H', Same H H' → Sq K H' p (cutV xs lo hi) → Q (.ref p) H') : rSlQ K (.ref a) lo hi H Q := by
  rcases h with h | h
  · exact .inl ⟨a, xs, rfl, h, fun p np => q p _ (Same.new np) (.inl (.of upd_same))⟩
  · refine .inr ⟨a, xs, rfl, h, fun hw => ?_, fun _ p np => q p _ (Same.new np) (.inr (.of upd_same))⟩
    refine q a H (Same.refl H) (.inr ?_)
    have e : cutV xs lo hi = xs := by
      unfold cutV
      rw [hw.1, hw.2]
      simp
    rw [e]
    exact h
/-! ### tests that leave the heap -/
theorem tOr_pure {t u : TT} {σ : L2.St} {H : Hp} {Q : Bool → Hp → Prop} (c1 c2 : Bool) (h1 : ∀ Q' : Bool → Hp → Prop, Q' c1 H → t σ H Q') (h2 : c1 = false → ∀ Q' : Bool → Hp → Prop, Q' c2 H → u σ H Q') (q : Q (c1 || c2) H) : tOr t u σ H Q := by
  refine h1 _ ?_
  cases c1 with
  | true => exact iteT q
  | false => exact iteF (h2 rfl _ q)
theorem tAnd_pure {t u : TT} {σ : L2.St} {H : Hp} {Q : Bool → Hp → Prop} (c1 c2 : Bool) (h1 : ∀ Q' : Bool → Hp → Prop, Q' c1 H → t σ H Q') (h2 : c1 = true → ∀ Q' : Bool → Hp → Prop, Q' c2 H → u σ H Q') (q : Q (c1 && c2) H) : tAnd t u σ H Q := by
  refine h1 _ ?_
  cases c1 with
  | true => exact iteT (h2 rfl _ q)
  | false => exact iteF q
theorem decStr (x y : Str) : decide (V.str x = V.str y) = decide (x = y) := by
  by_cases h : x = y
  · rw [decide_eq_true h, decide_eq_true (congrArg V.str h)]
  · rw [decide_eq_false h, decide_eq_false fun e => h (V.str.inj e)]
/-! ### flat texts -/
def sV (l : List Str) : List V := l.map V.str
theorem flat_sV : ∀ l : List Str, (sV l).all flatV = true
  | [] => rfl
  | x :: r => by
    show (flatV (.str x) && (sV r).all flatV) = true
    rw [flat_sV r]
    rfl
theorem inV_sV (x : Str) : ∀ l : List Str, inV (.str x) (sV l) = decide (x ∈ l)
  | [] => by simp [inV, sV]
  | y :: r => by
    have ih := inV_sV x r
    unfold inV sV at ih ⊢
    rw [List.map_cons, List.any_cons, ih]
    show (decide (y = x) || decide (x ∈ r)) = decide (x ∈ y :: r)
    by_cases h : y = x
    · subst h
      simp
    · simp [h, Ne.symm h]
/-! ### comprehensions that only make -/
structure LP (H1 : Hp) (D : Addr) (acc : Nat → List V) (i : Nat) (H : Hp) : Prop where
  sm : Same H1 H
  at_ : H D = some (.lst (acc i))
theorem LP.zero {H1 : Hp} {D : Addr} {acc : Nat → List V} (n : H1 D = none) (h : acc 0 = []) : LP H1 D acc 0 (upd H1 D (.lst [])) := ⟨Same.new n, by rw [upd_same, h]⟩
theorem LP.put {H1 H H4 : Hp} {D : Addr} {acc : Nat → List V} {i : Nat} {y : V} (p : LP H1 D acc i H) (n : H1 D = none) (sm : Same H H4) (ha : acc (i + 1) = acc i ++ [y]) (hl : (acc i).length < sizeLine) :
    ∃ a, H4 D = some (.lst a) ∧ a.length < sizeLine ∧ LP H1 D acc (i + 1) (upd H4 D (.lst (a ++ [y]))) :=
  ⟨acc i, sm _ _ p.at_, hl, Same.at (p.sm.trans sm) n, by rw [upd_same, ha]⟩
theorem LP.skip {H1 H H4 : Hp} {D : Addr} {acc : Nat → List V} {i : Nat} (p : LP H1 D acc i H) (sm : Same H H4) (ha : acc (i + 1) = acc i) : LP H1 D acc (i + 1) H4 := ⟨p.sm.trans sm, by rw [ha]; exact sm _ _ p.at_⟩
/-- names that are not the module's own -/
structure Nm (mg : Str → Option Value) : Prop where
  n_isinstance : mg "isinstance" = none
  n_str : mg "str" = none
  n_int : mg "int" = none
  n_bool : mg "bool" = none
  n_list : mg "list" = none
  n_tuple : mg "tuple" = none
  n_dict : mg "dict" = none
  n_len : mg "len" = none
  n_all : mg "all" = none
  n_any : mg "any" = none
  n_range : mg "range" = none
  n_abs : mg "abs" = none
  n_divmod : mg "divmod" = none
  n_min : mg "min" = none
  n_repr : mg "repr" = none
  n_sorted : mg "sorted" = none
  n_enumerate : mg "enumerate" = none
  n_zip : mg "zip" = none
  n_set : mg "set" = none
structure Cn (mg : Str → Option Value) : Prop where
  c_LETTERS : GC mg "LETTERS" (.str "abcdefghijklmnopqrstuvwxyz")
  c_MOST_LETTERS : GC mg "MOST_LETTERS" (.int 6)
  c_MOST_PARTS : GC mg "MOST_PARTS" (.int 8)
  c_MOST_GATES : GC mg "MOST_GATES" (.int 8)
  c_MOST_CAUSES : GC mg "MOST_CAUSES" (.int 4)
end Kf

set_option Elab.async false
set_option linter.all false
set_option maxRecDepth 100000
set_option maxHeartbeats 2000000
namespace Kf
open PySem PySem.Spec PyProof.Rows L2
/-! ## plants.py: what it judges, said of good values -/
structure NameOk (z : Str) : Prop where
  lo : 1 ≤ z.length
  hi : z.length ≤ 6
  low : ∀ c ∈ z.cps.toList, 97 ≤ c ∧ c ≤ 122
theorem letters_eq : (Str.ofString "abcdefghijklmnopqrstuvwxyz").cps.toList = List.range' 97 26 := by decide +kernel
theorem mem_letters {c : Nat} (h : 97 ≤ c ∧ c ≤ 122) : c ∈ (Str.ofString "abcdefghijklmnopqrstuvwxyz").cps.toList := by
  rw [letters_eq, List.mem_range']
  exact ⟨c - 97, by omega, by omega⟩
def trues (i : Nat) : List V := (List.replicate i true).map V.bl
theorem trues_succ (i : Nat) : trues (i + 1) = trues i ++ [.bl true] := by
  unfold trues
  rw [List.replicate_succ', List.map_append]
  rfl
theorem trues_len (i : Nat) : (trues i).length = i := by simp [trues]
theorem trues_all (i : Nat) : (List.replicate i true).all id = true := by simp
theorem blT {p : Prop} [Decidable p] (h : p) : V.bl (decide p) = V.bl true := by rw [decide_eq_true h]
theorem blF {p : Prop} [Decidable p] (h : ¬ p) : V.bl (decide p) = V.bl false := by rw [decide_eq_false h]
section
variable {P : Program} {w : World} {K : PySem.W.Frag} {mg : Str → Option Value} {base : Heap}
def spTrueOf (ok : V → Hp → Prop) : Sp := fun vs H Q _ => ∃ v, vs = [v] ∧ ok v H ∧ ∀ H', Same H H' → Q (.bl true) H'
def spIsName : Sp := spTrueOf fun v _ => ∃ z, v = .str z ∧ NameOk z
theorem ok_is_name {f : Addr} {fd : FuncData} {k : Nat} (F : Fun K "is_name" "is_name" s_is_name f fd) (T : Nm mg) (Z : Cn mg) : FnOk P w K mg base CX0 (k + 1) f fd ["value"] spIsName := by
  refine F.ok sc_is_name (fun vs H Q E h => ?_) (fun cdv A outer s H vs Q E hr h => ?_)
  · obtain ⟨v, rfl, _⟩ := h
    rfl
  · obtain ⟨_, rfl, ⟨z, rfl, ok⟩, q⟩ := h
    have hl := ok.lo
    have hh := ok.hi
    refine ⟨_, (pss_cons (ps_if (PW.pt (pw_or (pt_not (pt_val (pe_callB call_isi (by rfl) T.n_isinstance (by decide +kernel) (pa_cons (pv 0) (pa_cons (pe_bltn (v := .ty "str") (by rfl) T.n_str (by decide +kernel) rfl) pa_nil))))) (pw_or1 (pt_not (pt_chain op_le op_le pe_int (pe_callB call_len_str (by rfl) T.n_len (by decide +kernel) (pa_cons (pv 0) pa_nil)) (pe_gc (by rfl) Z.c_MOST_LETTERS))))))
 (pss_one (ps_ret pe_bl))
 pss_nil)
 (pss_one (ps_ret (pe_callB (cr_all rfl) (by rfl) T.n_all (by decide +kernel) (pa_cons (pe_lc (own := [("letter", 1)]) (g := gName 1) (by rfl) sc_is_name.nd (pi_str (pv 0)) (blkOk_by (own := [("letter", 1)]) (N := ["value", "letter"]) (sc := defScope s_is_name) (by decide +kernel)) (fun _ _ _ _ _ => pg_name (i := 1) sc_is_name.nd rfl (.inl rfl)) (fun _ _ _ _ _ => pts_nil) (fun _ _ _ _ _ => (pe_cmpR op_in_sign (pv 1) (pe_gc (by rfl) Z.c_LETTERS) (by with_unfolding_all rfl)))) pa_nil))))), ?_⟩
    refine ⟨.str z, rfl, _, _, .type "str", .type "str", true, rfl, .ty _, .base (.str _), kit_ty (by decide +kernel), true, rfl, iteF ?_⟩
    refine ⟨.str z, rfl, z, rfl, by rw [sizeLine_eq]; omega, 1, _, rfl, rfl, true, blT (by omega), iteT ⟨_, 6, rfl, rfl, true, blT (by omega), iteF ?_⟩⟩
    refine ⟨.str z, rfl, z, rfl, fun D nD => ?_⟩
    refine lc_it walk_str (LP H D trues) (LP.zero nD rfl) (fun _ _ _ _ => trivial) (fun i x H2 H3 hi p y => ?_) (fun H2 p => ?_)
    · obtain ⟨rfl, c, hc, rfl⟩ := y
      refine ⟨rfl, ⟨.str ⟨#[c]⟩, rfl, c, _, rfl, rfl, ?_⟩⟩
      rw [decide_eq_true (mem_letters (ok.low c (by rw [Array.mem_toList_iff]; exact Array.mem_of_getElem? hc)))]
      exact p.put nD (Same.refl _) (trues_succ i) (by rw [trues_len, sizeLine_eq]; have : i < z.length := hi; omega)
    · refine ⟨D, List.replicate z.cps.size true, rfl, .of p.at_, ?_⟩
      rw [trues_all]
      exact q _ p.sm
/-! ### kinds of values -/
theorem ty_tup {H : Hp} {a : Addr} {xs : List V} (h : SqT K H a xs) : TyX K H (.ref a) (.type "tuple") := by
  rcases h with (h | ⟨o, h⟩) | ⟨o, its, n, h, c, _⟩
  · exact .base (.tup h)
  · exact .fTuple h
  · exact .kTuple h c
theorem ty_lst {H : Hp} {a : Addr} {xs : List V} (h : SqL K H a xs) : TyX K H (.ref a) (.type "list") := by
  rcases h with (h | ⟨o, h⟩) | ⟨o, its, n, h, c, _⟩
  · exact .base (.lst h)
  · exact .base (.frz h)
  · exact .kList h c
def spIsInteger : Sp := spTrueOf fun v _ => ∃ i, v = .int i
theorem ok_is_integer {f : Addr} {fd : FuncData} {k : Nat} (F : Fun K "is_integer" "is_integer" s_is_integer f fd) (T : Nm mg) : FnOk P w K mg base CX0 (k + 1) f fd ["value"] spIsInteger := by
  refine F.ok sc_is_integer (fun vs H Q E h => ?_) (fun cdv A outer s H vs Q E hr h => ?_)
  · obtain ⟨v, rfl, _⟩ := h
    rfl
  · obtain ⟨_, rfl, ⟨i, rfl⟩, q⟩ := h
    refine ⟨_, (pss_one (ps_ret (pe_and (pe_callB call_isi (by rfl) T.n_isinstance (by decide +kernel) (pa_cons (pv 0) (pa_cons (pe_bltn (v := .ty "int") (by rfl) T.n_int (by decide +kernel) rfl) pa_nil))) (pe_one (pe_not (pe_callB call_isi (by rfl) T.n_isinstance (by decide +kernel) (pa_cons (pv 0) (pa_cons (pe_bltn (v := .ty "bool") (by rfl) T.n_bool (by decide +kernel) rfl) pa_nil)))))))), ?_⟩
    refine ⟨.int i, rfl, _, _, .type "int", .type "int", true, rfl, .ty _, .base (.int _), kit_ty (by decide +kernel), true, rfl, iteT ?_⟩
    exact ⟨.int i, rfl, _, _, .type "int", .type "bool", false, rfl, .ty _, .base (.int _), kit_ty (by decide +kernel), false, rfl, q _ (Same.refl _)⟩
def spIsList (K : PySem.W.Frag) : Sp := spTrueOf fun v H => ∃ a xs, v = .ref a ∧ Sq K H a xs
theorem ok_is_list {f : Addr} {fd : FuncData} {k : Nat} (F : Fun K "is_list" "is_list" s_is_list f fd) (T : Nm mg) : FnOk P w K mg base CX0 (k + 1) f fd ["value"] (spIsList K) := by
  refine F.ok sc_is_list (fun vs H Q E h => ?_) (fun cdv A outer s H vs Q E hr h => ?_)
  · obtain ⟨v, rfl, _⟩ := h
    rfl
  · obtain ⟨_, rfl, ⟨a, xs, rfl, h⟩, q⟩ := h
    refine ⟨_, (pss_one (ps_ret (pe_callB call_isiT (by rfl) T.n_isinstance (by decide +kernel) (pa_cons (pv 0) (pa_cons (pe_tup (pa_cons (pe_bltn (v := .ty "list") (by rfl) T.n_list (by decide +kernel) rfl) (pa_cons (pe_bltn (v := .ty "tuple") (by rfl) T.n_tuple (by decide +kernel) rfl) pa_nil))) pa_nil))))), ?_⟩
    refine ⟨.ref a, rfl, by show 2 ≤ sizeLine; decide, fun p np => ?_⟩
    have h2 := Same.sq (Same.new (o := .tup [.ty "list", .ty "tuple"]) np) h
    rcases h2 with h2 | h2
    · exact ⟨_, p, [.ty "list", .ty "tuple"], .type "list", [.type "list", .type "tuple"], true, rfl, upd_same, .cons (.ty _) (.cons (.ty _) .nil), ty_lst h2, kitAny_cons (b := true) (kit_ty (by decide +kernel)) (fun z => nomatch z) (fun _ => rfl), q _ (Same.new np)⟩
    · exact ⟨_, p, [.ty "list", .ty "tuple"], .type "tuple", [.type "list", .type "tuple"], true, rfl, upd_same, .cons (.ty _) (.cons (.ty _) .nil), ty_tup h2, kitAny_cons (b := false) (kit_ty (by decide +kernel)) (fun _ => kitAny_cons (b := true) (kit_ty (by decide +kernel)) (fun z => nomatch z) (fun _ => rfl)) (fun z => nomatch z), q _ (Same.new np)⟩
/-! ### no text twice -/
theorem cut_to {xs : List V} {i : Nat} (h : i ≤ xs.length) : cutV xs none (some (i : Int)) = xs.take i := by
  unfold cutV
  have e1 : HT.sIx xs.length 0 none = 0 := rfl
  have e2 : HT.sIx xs.length xs.length (some (i : Int)) = i := by
    rw [HT.sIx_nat]
    omega
  rw [e1, e2]
  simp
def spAllDiffer (K : PySem.W.Frag) : Sp := spTrueOf fun v H => ∃ a l, v = .ref a ∧ Sq K H a (sV l) ∧ l.Nodup ∧ l.length ≤ 1000
theorem ok_all_differ {f : Addr} {fd : FuncData} {k : Nat} (F : Fun K "all_differ" "all_differ" s_all_differ f fd) (T : Nm mg) : FnOk P w K mg base CX0 (k + 1) f fd ["values"] (spAllDiffer K) := by
  refine F.ok sc_all_differ (fun vs H Q E h => ?_) (fun cdv A outer s H vs Q E hr h => ?_)
  · obtain ⟨v, rfl, _⟩ := h
    rfl
  · obtain ⟨_, rfl, ⟨a, l, rfl, h, nd, hl⟩, q⟩ := h
    have el : (sV l).length = l.length := List.length_map ..
    refine ⟨_, (pss_one (ps_ret (pe_callB (cr_all rfl) (by rfl) T.n_all (by decide +kernel) (pa_cons (pe_lc (own := [("at", 1)]) (g := gName 1) (by rfl) sc_all_differ.nd (pi_range1 rfl T.n_range (pa_cons (pe_callB (call_lenK (K := K) rfl) (by rfl) T.n_len (by decide +kernel) (pa_cons (pv 0) pa_nil)) pa_nil)) (blkOk_by (own := [("at", 1)]) (N := ["values", "at"]) (sc := defScope s_all_differ) (by decide +kernel)) (fun _ _ _ _ _ => pg_name (i := 1) sc_all_differ.nd rfl (.inl rfl)) (fun _ _ _ _ _ => pts_nil) (fun _ _ _ _ _ => (pe_cmpR (op_notInK (K := K) rfl) (pe_ix (ix_sqK (K := K) rfl) (pv 0) (pv 1) (fun _ _ => rfl)) (pe_slice (sl_sqK (K := K) rfl) (pv 0) po_none (po_some (pv 1))) (by with_unfolding_all rfl)))) pa_nil)))), ?_⟩
    refine ⟨.ref a, rfl, a, _, rfl, h, l.length, by rw [el], by omega, by omega, fun D nD => ?_⟩
    refine lc_it (walk_range (lo := 0) (n := l.length)) (LP H D trues) (LP.zero nD rfl) (fun _ _ _ _ => trivial) (fun i x H2 H3 hi p y => ?_) (fun H2 p => ?_)
    · obtain ⟨rfl, rfl⟩ := y
      have h2 := Same.sq p.sm h
      have e0 : (0 : Int) + (i : Int) = (i : Int) := by omega
      have hx : (sV l)[i]? = some (.str l[i]) := by simp [sV, hi]
      refine ⟨rfl, .ref a, rfl, .int (0 + (i : Int)), rfl, a, _, 0 + (i : Int), _, rfl, rfl, h2, by rw [e0]; exact atI_nat hx, .ref a, rfl, .int (0 + (i : Int)), rfl, 0 + (i : Int), rfl, ?_⟩
      refine rSlQ.of h2 fun c H4 sm h4 => ?_
      rw [e0, cut_to (by omega)] at h4
      have e4 : (sV l).take i = sV (l.take i) := by simp [sV, List.map_take]
      rw [e4] at h4
      refine ⟨c, _, rfl, h4, rfl, flat_sV _, ?_⟩
      rw [inV_sV]
      have hn : ¬ l[i] ∈ l.take i := by
        intro hm
        obtain ⟨j, hj, e⟩ := List.mem_iff_getElem.mp hm
        rw [List.getElem_take] at e
        rw [List.length_take] at hj
        exact (List.pairwise_iff_getElem.mp nd) j i (by omega) hi (by omega) e
      rw [decide_eq_false hn]
      exact p.put nD sm (trues_succ i) (by rw [trues_len, sizeLine_eq]; omega)
    · refine ⟨D, List.replicate l.length true, rfl, .of p.at_, ?_⟩
      rw [trues_all]
      exact q _ p.sm
/-! ### things at their places -/
def Each {α : Type} (R : V → α → Prop) (xs : List V) (l : List α) : Prop := xs.length = l.length ∧ ∀ (i : Nat) (x : V), xs[i]? = some x → ∃ p, l[i]? = some p ∧ R x p
theorem Each.imp {α : Type} {R R' : V → α → Prop} {xs : List V} {l : List α} (e : Each R xs l) (h : ∀ x p, R x p → R' x p) : Each R' xs l :=
  ⟨e.1, fun i x hx => by
    obtain ⟨p, hp, r⟩ := e.2 i x hx
    exact ⟨p, hp, h _ _ r⟩⟩
/-- tuples are kept -/
def KT (K : PySem.W.Frag) (H H' : Hp) : Prop := ∀ a xs, SqT K H a xs → SqT K H' a xs
theorem Same.kt {H H' : Hp} (s : Same H H') : KT K H H' := fun _ _ h => Same.sqt s h
def TxtsAt (K : PySem.W.Frag) (H : Hp) (v : V) (l : List Str) : Prop := ∃ a, v = .ref a ∧ SqT K H a (sV l)
def PartAt (K : PySem.W.Frag) (H : Hp) (v : V) (p : Str × Str) : Prop := ∃ a, v = .ref a ∧ SqT K H a [.str p.1, .str p.2]
def CauseAt (K : PySem.W.Frag) (H : Hp) (v : V) (c : Str × List Str) : Prop := ∃ a b, v = .ref a ∧ SqT K H a [.str c.1, .ref b] ∧ SqT K H b (sV c.2)
inductive G where
  | all (n : Str) (ins : List Str)
  | any (n : Str) (ins : List Str)
  | least (n : Str) (m : Int) (ins : List Str)
  | before (n x y : Str)
  | spare (n : Str) (ps : List Str)
def G.name : G → Str
  | .all n _ | .any n _ | .least n _ _ | .before n _ _ | .spare n _ => n
def GateAt (K : PySem.W.Frag) (H : Hp) (v : V) : G → Prop
  | .all n ins => ∃ a b, v = .ref a ∧ SqT K H a [.str n, .str "all", .ref b] ∧ SqT K H b (sV ins)
  | .any n ins => ∃ a b, v = .ref a ∧ SqT K H a [.str n, .str "any", .ref b] ∧ SqT K H b (sV ins)
  | .least n m ins => ∃ a b, v = .ref a ∧ SqT K H a [.str n, .str "least", .int m, .ref b] ∧ SqT K H b (sV ins)
  | .before n x y => ∃ a, v = .ref a ∧ SqT K H a [.str n, .str "before", .str x, .str y]
  | .spare n ps => ∃ a b, v = .ref a ∧ SqT K H a [.str n, .str "spare", .ref b] ∧ SqT K H b (sV ps)
theorem PartAt.kt {H H' : Hp} {v : V} {p : Str × Str} (k : KT K H H') (h : PartAt K H v p) : PartAt K H' v p := by
  obtain ⟨a, e, h⟩ := h
  exact ⟨a, e, k _ _ h⟩
theorem CauseAt.kt {H H' : Hp} {v : V} {c : Str × List Str} (k : KT K H H') (h : CauseAt K H v c) : CauseAt K H' v c := by
  obtain ⟨a, b, e, h, h2⟩ := h
  exact ⟨a, b, e, k _ _ h, k _ _ h2⟩
theorem GateAt.kt {H H' : Hp} {v : V} {g : G} (k : KT K H H') (h : GateAt K H v g) : GateAt K H' v g := by
  cases g with
  | all n ins =>
    obtain ⟨a, b, e, h, h2⟩ := h
    exact ⟨a, b, e, k _ _ h, k _ _ h2⟩
  | any n ins =>
    obtain ⟨a, b, e, h, h2⟩ := h
    exact ⟨a, b, e, k _ _ h, k _ _ h2⟩
  | least n m ins =>
    obtain ⟨a, b, e, h, h2⟩ := h
    exact ⟨a, b, e, k _ _ h, k _ _ h2⟩
  | before n x y =>
    obtain ⟨a, e, h⟩ := h
    exact ⟨a, e, k _ _ h⟩
  | spare n ps =>
    obtain ⟨a, b, e, h, h2⟩ := h
    exact ⟨a, b, e, k _ _ h, k _ _ h2⟩
/-! ### choices of names -/
structure ChoiceOk (l names : List Str) : Prop where
  ne : l ≠ []
  nd : l.Nodup
  sub : ∀ x ∈ l, x ∈ names
  len : l.length ≤ 1000
theorem map_isEmpty {l : List Str} (h : l ≠ []) : (!(sV l).isEmpty) = true := by
  cases l with
  | nil => exact absurd rfl h
  | cons x r => rfl
def spIsChoice (K : PySem.W.Frag) : Sp := fun vs H Q _ => ∃ v b l names, vs = [v, .ref b] ∧ TxtsAt K H v l ∧ Sq K H b (sV names) ∧ ChoiceOk l names ∧ ∀ H', Same H H' → Q (.bl true) H'
theorem ok_is_choice {f : Addr} {fd : FuncData} (F : Fun K "is_choice" "is_choice" s_is_choice f fd) (T : Nm mg) (C_all_differ : Cal P w K mg base 1 "all_differ" ["values"] (spAllDiffer K)) :
    FnOk P w K mg base CX0 2 f fd ["value", "names"] (spIsChoice K) := by
  refine F.ok sc_is_choice (fun vs H Q E h => ?_) (fun cdv A outer s H vs Q E hr h => ?_)
  · obtain ⟨v, b, l, names, rfl, _⟩ := h
    rfl
  · obtain ⟨_, b, l, names, rfl, ⟨a, rfl, h⟩, hb, ok, q⟩ := h
    refine ⟨_, (pss_cons (ps_if (PW.pt (pw_or (pt_not (pt_val (pe_callB call_isi (by rfl) T.n_isinstance (by decide +kernel) (pa_cons (pv 0) (pa_cons (pe_bltn (v := .ty "tuple") (by rfl) T.n_tuple (by decide +kernel) rfl) pa_nil))))) (pw_or1 (pt_not (pt_truth (pv 0) (by intro _; rfl))))))
 (pss_one (ps_ret pe_bl))
 pss_nil)
 (pss_one (ps_ret (pe_and (pe_callB (cr_all rfl) (by rfl) T.n_all (by decide +kernel) (pa_cons (pe_lc (own := [("item", 2)]) (g := gName 2) (by rfl) sc_is_choice.nd (pi_sq (pv 0)) (blkOk_by (own := [("item", 2)]) (N := ["value", "names", "item"]) (sc := defScope s_is_choice) (by decide +kernel)) (fun _ _ _ _ _ => pg_name (i := 2) sc_is_choice.nd rfl (.inl rfl)) (fun _ _ _ _ _ => pts_nil) (fun _ _ _ _ _ => (pe_cmpR (op_inK (K := K) rfl) (pv 2) (pv 1) (by with_unfolding_all rfl)))) pa_nil)) (pe_one (pe_cal C_all_differ (by decide) hr (by rfl) (pa_cons (pv 0) pa_nil))))))), ?_⟩
    refine ⟨.ref a, rfl, _, _, .type "tuple", .type "tuple", true, rfl, .ty _, ty_tup h, kit_ty (by decide +kernel), true, rfl, iteF ?_⟩
    refine ⟨.ref a, rfl, true, .inr (.inl ⟨_, h, (map_isEmpty ok.ne).symm⟩), iteF ?_⟩
    refine ⟨.ref a, rfl, a, false, rfl, ⟨_, h⟩, fun D nD => ?_⟩
    have el : (sV l).length = l.length := List.length_map ..
    refine lc_it walk_sq (LP H D trues) (LP.zero nD rfl) (fun _ _ _ p => Same.sqb (b := false) p.sm h) (fun i x H2 H3 hi p y => ?_) (fun H2 p => ?_)
    · obtain ⟨rfl, hx⟩ := y
      rw [el] at hi
      have hx2 : (sV l)[i]? = some (.str l[i]) := by simp [sV, hi]
      obtain rfl : x = .str l[i] := Option.some.inj (hx.symm.trans hx2)
      refine ⟨rfl, .str l[i], rfl, .ref b, rfl, b, _, rfl, Same.sq p.sm hb, rfl, flat_sV _, ?_⟩
      show ∃ acc, H3 D = _ ∧ _
      rw [inV_sV, decide_eq_true (ok.sub _ (List.getElem_mem hi))]
      exact p.put nD (Same.refl _) (trues_succ i) (by have := ok.len; rw [trues_len, sizeLine_eq]; omega)
    · refine ⟨D, List.replicate (sV l).length true, rfl, .of p.at_, ?_⟩
      rw [trues_all]
      refine ⟨true, rfl, iteT ⟨.ref a, rfl, .ref a, rfl, ⟨a, l, rfl, Same.sq p.sm (.inr h), ok.nd, ok.len⟩, fun H3 s3 => q _ (p.sm.trans s3)⟩⟩
/-! ### parts -/
theorem iteD {c A B : Prop} [Decidable c] (h : c) (a : A) : if decide c = true then A else B := by
  rw [if_pos (decide_eq_true h)]
  exact a
theorem iteN {c A B : Prop} [Decidable c] (h : ¬ c) (b : B) : if decide c = true then A else B := by
  rw [if_neg (by rw [decide_eq_false h]; exact Bool.false_ne_true)]
  exact b
structure PartOk (p : Str × Str) : Prop where
  name : NameOk p.1
  kind : p.2 ∈ [("hot" : Str), "cold"]
def spIsPart (K : PySem.W.Frag) : Sp := spTrueOf fun v H => ∃ p, PartAt K H v p ∧ PartOk p
theorem ok_is_part {f : Addr} {fd : FuncData} (F : Fun K "is_part" "is_part" s_is_part f fd) (T : Nm mg) (C_is_name : Cal P w K mg base 1 "is_name" ["value"] spIsName) : FnOk P w K mg base CX0 2 f fd ["value"] (spIsPart K) := by
  refine F.ok sc_is_part (fun vs H Q E h => ?_) (fun cdv A outer s H vs Q E hr h => ?_)
  · obtain ⟨v, rfl, _⟩ := h
    rfl
  · obtain ⟨_, rfl, ⟨⟨n, kd⟩, ⟨a, rfl, h⟩, ok⟩, q⟩ := h
    refine ⟨_, (pss_cons (ps_if (PW.pt (pw_or (pt_not (pt_val (pe_callB call_isi (by rfl) T.n_isinstance (by decide +kernel) (pa_cons (pv 0) (pa_cons (pe_bltn (v := .ty "tuple") (by rfl) T.n_tuple (by decide +kernel) rfl) pa_nil))))) (pw_or1 (pt_cmpR op_ne (pe_callB (call_lenK (K := K) rfl) (by rfl) T.n_len (by decide +kernel) (pa_cons (pv 0) pa_nil)) pe_int (nomark _)))))
 (pss_one (ps_ret pe_bl))
 pss_nil)
 (pss_one (ps_ret (pe_and (pe_cal C_is_name (by decide) hr (by rfl) (pa_cons (pe_ix (ix_sqK (K := K) rfl) (pv 0) pe_int (fun _ _ => rfl)) pa_nil)) (pe_one (pe_cmpR (op_inK (K := K) rfl) (pe_ix (ix_sqK (K := K) rfl) (pv 0) pe_int (fun _ _ => rfl)) (pe_tup (pa_cons pe_str (pa_cons pe_str pa_nil))) (by with_unfolding_all rfl))))))), ?_⟩
    refine ⟨.ref a, rfl, _, _, .type "tuple", .type "tuple", true, rfl, .ty _, ty_tup h, kit_ty (by decide +kernel), true, rfl, iteF ?_⟩
    refine ⟨.ref a, rfl, a, _, rfl, .inr h, rfl, _, rfl, iteNS rfl ?_⟩
    refine ⟨.ref a, rfl, a, _, 0, .str n, rfl, rfl, .inr h, rfl, .str n, rfl, ⟨n, rfl, ok.name⟩, fun H2 s2 => ⟨true, rfl, iteT ?_⟩⟩
    refine ⟨.ref a, rfl, a, _, 1, .str kd, rfl, rfl, .inr (Same.sqt s2 h), rfl, by show 2 ≤ sizeLine; decide, fun p np => ?_⟩
    refine ⟨p, sV ["hot", "cold"], rfl, .inr (.of upd_same), rfl, flat_sV _, ?_⟩
    show Q (.bl (inV (.str kd) (sV ["hot", "cold"]))) _
    rw [inV_sV, decide_eq_true ok.kind]
    exact q _ (s2.trans (Same.new np))
structure PartsOk (l : List (Str × Str)) : Prop where
  lo : 1 ≤ l.length
  hi : l.length ≤ 8
  each : ∀ p ∈ l, PartOk p
  nd : (l.map (·.1)).Nodup
def spAreParts (K : PySem.W.Frag) : Sp := spTrueOf fun v H => ∃ a xs l, v = .ref a ∧ Sq K H a xs ∧ Each (PartAt K H) xs l ∧ PartsOk l
theorem ok_are_parts {f : Addr} {fd : FuncData} (F : Fun K "are_parts" "are_parts" s_are_parts f fd) (T : Nm mg) (Z : Cn mg) (C_is_list : Cal P w K mg base 1 "is_list" ["value"] (spIsList K)) (C_is_part : Cal P w K mg base 2 "is_part" ["value"] (spIsPart K))
    (C_all_differ : Cal P w K mg base 1 "all_differ" ["values"] (spAllDiffer K)) : FnOk P w K mg base CX0 3 f fd ["value"] (spAreParts K) := by
  refine F.ok sc_are_parts (fun vs H Q E h => ?_) (fun cdv A outer s H vs Q E hr h => ?_)
  · obtain ⟨v, rfl, _⟩ := h
    rfl
  · obtain ⟨_, rfl, ⟨a, xs, l, rfl, h, he, ok⟩, q⟩ := h
    have hlo := ok.lo
    have hhi := ok.hi
    have el := he.1
    refine ⟨_, (pss_cons (ps_if (PW.pt (pw_or (pt_not (pt_val (pe_cal C_is_list (by decide) hr (by rfl) (pa_cons (pv 0) pa_nil)))) (pw_or1 (pt_not (pt_chain op_le op_le pe_int (pe_callB (call_lenK (K := K) rfl) (by rfl) T.n_len (by decide +kernel) (pa_cons (pv 0) pa_nil)) (pe_gc (by rfl) Z.c_MOST_PARTS))))))
 (pss_one (ps_ret pe_bl))
 pss_nil)
 (pss_one (ps_ret (pe_and (pe_callB (cr_all rfl) (by rfl) T.n_all (by decide +kernel) (pa_cons (pe_lc (own := [("item", 1)]) (g := gName 1) (by rfl) sc_are_parts.nd (pi_sq (pv 0)) (blkOk_by (own := [("item", 1)]) (N := ["value", "item"]) (sc := defScope s_are_parts) (by decide +kernel)) (fun _ _ _ _ _ => pg_name (i := 1) sc_are_parts.nd rfl (.inl rfl)) (fun _ _ _ _ _ => pts_nil) (fun _ _ _ _ _ => (pe_cal C_is_part (by decide) hr (by rfl) (pa_cons (pv 1) pa_nil)))) pa_nil)) (pe_one (pe_cal C_all_differ (by decide) hr (by rfl) (pa_cons (pe_lc (own := [("item", 1)]) (g := gName 1) (by rfl) sc_are_parts.nd (pi_sq (pv 0)) (blkOk_by (own := [("item", 1)]) (N := ["value", "item"]) (sc := defScope s_are_parts) (by decide +kernel)) (fun _ _ _ _ _ => pg_name (i := 1) sc_are_parts.nd rfl (.inl rfl)) (fun _ _ _ _ _ => pts_nil) (fun _ _ _ _ _ => (pe_ix (ix_sqK (K := K) rfl) (pv 1) pe_int (fun _ _ => rfl)))) pa_nil))))))), ?_⟩
    refine ⟨.ref a, rfl, .ref a, rfl, ⟨a, xs, rfl, h⟩, fun H2 s2 => ⟨true, rfl, iteF ?_⟩⟩
    have h := Same.sq s2 h
    have he := he.imp fun _ _ r => PartAt.kt (Same.kt s2) r
    refine ⟨.ref a, rfl, a, xs, rfl, h, 1, _, rfl, rfl, true, blT (by omega), iteT ⟨_, 8, rfl, rfl, true, blT (by omega), iteF ?_⟩⟩
    obtain ⟨b, hb⟩ := h.b
    refine ⟨.ref a, rfl, a, b, rfl, ⟨_, hb⟩, fun D nD => ?_⟩
    refine lc_it walk_sq (LP H2 D trues) (LP.zero nD rfl) (fun _ _ _ p => Same.sqb p.sm hb) (fun i x H3 H4 hi p y => ?_) (fun H3 p => ?_)
    · obtain ⟨rfl, hx⟩ := y
      obtain ⟨pt, hpt, r⟩ := he.2 i x hx
      refine ⟨rfl, x, rfl, x, rfl, ⟨pt, PartAt.kt (Same.kt p.sm) r, ok.each _ (List.mem_of_getElem? hpt)⟩, fun H5 s5 => ?_⟩
      exact p.put nD s5 (trues_succ i) (by rw [trues_len, sizeLine_eq]; omega)
    · refine ⟨D, List.replicate xs.length true, rfl, .of p.at_, ?_⟩
      rw [trues_all]
      refine ⟨true, rfl, iteT ?_⟩
      have hb3 := Same.sqb p.sm hb
      refine ⟨.ref a, rfl, a, b, rfl, ⟨_, hb3⟩, fun D2 nD2 => ?_⟩
      refine lc_it walk_sq (LP H3 D2 fun i => sV ((l.map (·.1)).take i)) (LP.zero nD2 (by simp [sV])) (fun _ _ _ p => Same.sqb p.sm hb3) (fun i x H4 H5 hi p2 y => ?_) (fun H4 p2 => ?_)
      · obtain ⟨rfl, hx⟩ := y
        obtain ⟨pt, hpt, c, rfl, r⟩ := he.2 i x hx
        refine ⟨rfl, .ref c, rfl, c, _, 0, .str pt.1, rfl, rfl, .inr (Same.sqt (p.sm.trans p2.sm) r), rfl, ?_⟩
        refine p2.put nD2 (Same.refl _) ?_ (by rw [sizeLine_eq]; simp [sV]; omega)
        have e : (l.map (·.1))[i]? = some pt.1 := by simp [hpt]
        show sV _ = sV _ ++ [_]
        rw [List.take_add_one, e]
        simp [sV]
      · have e : sV ((l.map (·.1)).take xs.length) = sV (l.map (·.1)) := by rw [el, List.take_of_length_le (by simp)]
        refine ⟨.ref D2, rfl, ⟨D2, l.map (·.1), rfl, .inl (.of (by rw [p2.at_, e])), ok.nd, by simp; omega⟩, fun H5 s5 => ?_⟩
        exact q _ (((s2.trans p.sm).trans p2.sm).trans s5)
/-! ### causes -/
structure CauseOk (parts names : List Str) (c : Str × List Str) : Prop where
  trig : c.1 ∈ names
  ch : ChoiceOk c.2 parts
def spIsCause (K : PySem.W.Frag) : Sp := fun vs H Q _ => ∃ v a b c parts names, vs = [v, .ref a, .ref b] ∧ CauseAt K H v c ∧ Sq K H a (sV parts) ∧ Sq K H b (sV names) ∧ CauseOk parts names c ∧ ∀ H', Same H H' → Q (.bl true) H'
theorem ok_is_cause {f : Addr} {fd : FuncData} (F : Fun K "is_cause" "is_cause" s_is_cause f fd) (T : Nm mg) (C_is_choice : Cal P w K mg base 2 "is_choice" ["value", "names"] (spIsChoice K)) : FnOk P w K mg base CX0 3 f fd ["value", "parts", "names"] (spIsCause K) := by
  refine F.ok sc_is_cause (fun vs H Q E h => ?_) (fun cdv A outer s H vs Q E hr h => ?_)
  · obtain ⟨v, a, b, c, ps, ns, rfl, _⟩ := h
    rfl
  · obtain ⟨_, a, b, ⟨tr, ch⟩, ps, ns, rfl, ⟨p, d, rfl, h, hd⟩, ha, hb, ok, q⟩ := h
    refine ⟨_, (pss_cons (ps_if (PW.pt (pw_or (pt_not (pt_val (pe_callB call_isi (by rfl) T.n_isinstance (by decide +kernel) (pa_cons (pv 0) (pa_cons (pe_bltn (v := .ty "tuple") (by rfl) T.n_tuple (by decide +kernel) rfl) pa_nil))))) (pw_or1 (pt_cmpR op_ne (pe_callB (call_lenK (K := K) rfl) (by rfl) T.n_len (by decide +kernel) (pa_cons (pv 0) pa_nil)) pe_int (nomark _)))))
 (pss_one (ps_ret pe_bl))
 pss_nil)
 (pss_one (ps_ret (pe_and (pe_cmpR (op_inK (K := K) rfl) (pe_ix (ix_sqK (K := K) rfl) (pv 0) pe_int (fun _ _ => rfl)) (pv 2) (by with_unfolding_all rfl)) (pe_one (pe_cal C_is_choice (by decide) hr (by rfl) (pa_cons (pe_ix (ix_sqK (K := K) rfl) (pv 0) pe_int (fun _ _ => rfl)) (pa_cons (pv 1) pa_nil)))))))), ?_⟩
    refine ⟨.ref p, rfl, _, _, .type "tuple", .type "tuple", true, rfl, .ty _, ty_tup h, kit_ty (by decide +kernel), true, rfl, iteF ?_⟩
    refine ⟨.ref p, rfl, p, _, rfl, .inr h, rfl, _, rfl, iteNS rfl ?_⟩
    refine ⟨.ref p, rfl, p, _, 0, .str tr, rfl, rfl, .inr h, rfl, .ref b, rfl, b, _, rfl, hb, rfl, flat_sV _, ?_⟩
    show ∃ c, V.bl (inV (.str tr) (sV ns)) = .bl c ∧ _
    rw [inV_sV, decide_eq_true ok.trig]
    exact ⟨true, rfl, iteT ⟨.ref p, rfl, p, _, 1, .ref d, rfl, rfl, .inr h, rfl, .ref a, rfl, ⟨.ref d, a, ch, ps, rfl, ⟨d, rfl, hd⟩, ha, ok.ch, q⟩⟩⟩
structure CausesOk (parts names : List Str) (l : List (Str × List Str)) : Prop where
  hi : l.length ≤ 4
  each : ∀ c ∈ l, CauseOk parts names c
def spAreCauses (K : PySem.W.Frag) : Sp := fun vs H Q _ => ∃ v a b xs l parts names, vs = [.ref v, .ref a, .ref b] ∧ Sq K H v xs ∧ Each (CauseAt K H) xs l ∧ Sq K H a (sV parts) ∧ Sq K H b (sV names) ∧ CausesOk parts names l ∧ ∀ H', Same H H' → Q (.bl true) H'
theorem ok_are_causes {f : Addr} {fd : FuncData} (F : Fun K "are_causes" "are_causes" s_are_causes f fd) (T : Nm mg) (Z : Cn mg) (C_is_list : Cal P w K mg base 1 "is_list" ["value"] (spIsList K)) (C_is_cause : Cal P w K mg base 3 "is_cause" ["value", "parts", "names"] (spIsCause K)) :
    FnOk P w K mg base CX0 4 f fd ["value", "parts", "names"] (spAreCauses K) := by
  refine F.ok sc_are_causes (fun vs H Q E h => ?_) (fun cdv A outer s H vs Q E hr h => ?_)
  · obtain ⟨v, a, b, xs, c, ps, ns, rfl, _⟩ := h
    rfl
  · obtain ⟨v, a, b, xs, l, ps, ns, rfl, h, he, ha, hb, ok, q⟩ := h
    have hhi := ok.hi
    have el := he.1
    refine ⟨_, (pss_cons (ps_if (PW.pt (pw_or (pt_not (pt_val (pe_cal C_is_list (by decide) hr (by rfl) (pa_cons (pv 0) pa_nil)))) (pw_or1 (pt_cmpR op_gt (pe_callB (call_lenK (K := K) rfl) (by rfl) T.n_len (by decide +kernel) (pa_cons (pv 0) pa_nil)) (pe_gc (by rfl) Z.c_MOST_CAUSES) (nomark _)))))
 (pss_one (ps_ret pe_bl))
 pss_nil)
 (pss_one (ps_ret (pe_callB (cr_all rfl) (by rfl) T.n_all (by decide +kernel) (pa_cons (pe_lc (own := [("item", 3)]) (g := gName 3) (by rfl) sc_are_causes.nd (pi_sq (pv 0)) (blkOk_by (own := [("item", 3)]) (N := ["value", "parts", "names", "item"]) (sc := defScope s_are_causes) (by decide +kernel)) (fun _ _ _ _ _ => pg_name (i := 3) sc_are_causes.nd rfl (.inl rfl)) (fun _ _ _ _ _ => pts_nil) (fun _ _ _ _ _ => (pe_cal C_is_cause (by decide) hr (by rfl) (pa_cons (pv 3) (pa_cons (pv 1) (pa_cons (pv 2) pa_nil)))))) pa_nil))))), ?_⟩
    refine ⟨.ref v, rfl, .ref v, rfl, ⟨v, xs, rfl, h⟩, fun H2 s2 => ⟨true, rfl, iteF ?_⟩⟩
    have h := Same.sq s2 h
    refine ⟨.ref v, rfl, v, xs, rfl, h, _, 4, rfl, rfl, _, rfl, iteN (by omega) ?_⟩
    obtain ⟨d, hd⟩ := h.b
    refine ⟨.ref v, rfl, v, d, rfl, ⟨_, hd⟩, fun D nD => ?_⟩
    refine lc_it walk_sq (LP H2 D trues) (LP.zero nD rfl) (fun _ _ _ p => Same.sqb p.sm hd) (fun i x H3 H4 hi p y => ?_) (fun H3 p => ?_)
    · obtain ⟨rfl, hx⟩ := y
      obtain ⟨c, hc, r⟩ := he.2 i x hx
      have s4 := s2.trans p.sm
      refine ⟨rfl, x, rfl, .ref a, rfl, .ref b, rfl, ⟨x, a, b, c, ps, ns, rfl, CauseAt.kt (Same.kt s4) r, Same.sq s4 ha, Same.sq s4 hb, ok.each _ (List.mem_of_getElem? hc), fun H5 s5 => ?_⟩⟩
      exact p.put nD s5 (trues_succ i) (by rw [trues_len, sizeLine_eq]; omega)
    · refine ⟨D, List.replicate xs.length true, rfl, .of p.at_, ?_⟩
      rw [trues_all]
      exact q _ (s2.trans p.sm)
/-! ### gates -/
def RestAt (K : PySem.W.Frag) (H : Hp) (v : V) : G → Prop
  | .all n ins => ∃ a b, v = .ref a ∧ SqT K H a [.ref b] ∧ SqT K H b (sV ins)
  | .any n ins => ∃ a b, v = .ref a ∧ SqT K H a [.ref b] ∧ SqT K H b (sV ins)
  | .least n m ins => ∃ a b, v = .ref a ∧ SqT K H a [.int m, .ref b] ∧ SqT K H b (sV ins)
  | .before n x y => ∃ a, v = .ref a ∧ SqT K H a [.str x, .str y]
  | .spare n ps => ∃ a b, v = .ref a ∧ SqT K H a [.ref b] ∧ SqT K H b (sV ps)
def G.word : G → Str
  | .all _ _ => "all"
  | .any _ _ => "any"
  | .least _ _ _ => "least"
  | .before _ _ _ => "before"
  | .spare _ _ => "spare"
def GateIn (parts names : List Str) : G → Prop
  | .all _ ins => ChoiceOk ins names
  | .any _ ins => ChoiceOk ins names
  | .least _ m ins => ChoiceOk ins names ∧ 1 ≤ m ∧ m ≤ ins.length
  | .before _ x y => ChoiceOk [x, y] names
  | .spare _ ps => ChoiceOk ps parts
theorem litNe {a b : Str} (h : a ≠ b) : ¬ V.str a = V.str b := fun e => h (V.str.inj e)
theorem ne_all_any : ("all" : Str) ≠ "any" := by decide +kernel
theorem ne_all_least : ("all" : Str) ≠ "least" := by decide +kernel
theorem ne_all_before : ("all" : Str) ≠ "before" := by decide +kernel
theorem ne_all_spare : ("all" : Str) ≠ "spare" := by decide +kernel
theorem ne_any_all : ("any" : Str) ≠ "all" := by decide +kernel
theorem ne_any_least : ("any" : Str) ≠ "least" := by decide +kernel
theorem ne_any_before : ("any" : Str) ≠ "before" := by decide +kernel
theorem ne_any_spare : ("any" : Str) ≠ "spare" := by decide +kernel
theorem ne_least_all : ("least" : Str) ≠ "all" := by decide +kernel
theorem ne_least_any : ("least" : Str) ≠ "any" := by decide +kernel
theorem ne_least_before : ("least" : Str) ≠ "before" := by decide +kernel
theorem ne_least_spare : ("least" : Str) ≠ "spare" := by decide +kernel
theorem ne_before_all : ("before" : Str) ≠ "all" := by decide +kernel
theorem ne_before_any : ("before" : Str) ≠ "any" := by decide +kernel
theorem ne_before_least : ("before" : Str) ≠ "least" := by decide +kernel
theorem ne_before_spare : ("before" : Str) ≠ "spare" := by decide +kernel
theorem ne_spare_all : ("spare" : Str) ≠ "all" := by decide +kernel
theorem ne_spare_any : ("spare" : Str) ≠ "any" := by decide +kernel
theorem ne_spare_least : ("spare" : Str) ≠ "least" := by decide +kernel
theorem ne_spare_before : ("spare" : Str) ≠ "before" := by decide +kernel
def spIsWatch (K : PySem.W.Frag) : Sp := fun vs H Q _ => ∃ r a b g parts names, vs = [.str (G.word g), r, .ref a, .ref b] ∧ RestAt K H r g ∧ Sq K H a (sV parts) ∧ Sq K H b (sV names) ∧ GateIn parts names g ∧ ∀ H', Same H H' → Q (.bl true) H'
theorem ok_is_watch {f : Addr} {fd : FuncData} (F : Fun K "is_watch" "is_watch" s_is_watch f fd) (T : Nm mg) (C_is_choice : Cal P w K mg base 2 "is_choice" ["value", "names"] (spIsChoice K)) (C_is_integer : Cal P w K mg base 1 "is_integer" ["value"] spIsInteger) :
    FnOk P w K mg base CX0 3 f fd ["word", "rest", "parts", "names"] (spIsWatch K) := by
  refine F.ok sc_is_watch (fun vs H Q E h => ?_) (fun cdv A outer s H vs Q E hr h => ?_)
  · obtain ⟨v, a, b, xs, c, ps, rfl, _⟩ := h
    rfl
  · obtain ⟨r, a, b, g, ps, ns, rfl, h, ha, hb, ok, q⟩ := h
    refine ⟨_, (pss_cons (ps_if (pt_cmpR op_eq (pv 0) pe_str (nomark _))
 (pss_one (ps_ret (pe_and (pe_cmpR op_eq (pe_callB (call_lenK (K := K) rfl) (by rfl) T.n_len (by decide +kernel) (pa_cons (pv 1) pa_nil)) pe_int (nomark _)) (pe_one (pe_cal C_is_choice (by decide) hr (by rfl) (pa_cons (pv 1) (pa_cons (pv 3) pa_nil)))))))
 pss_nil)
 (pss_cons (ps_if (pt_cmpR op_eq (pv 0) pe_str (nomark _))
 (pss_cons (ps_if (PW.pt (pw_or (pt_cmpR op_ne (pe_callB (call_lenK (K := K) rfl) (by rfl) T.n_len (by decide +kernel) (pa_cons (pv 1) pa_nil)) pe_int (nomark _)) (pw_or (pt_not (pt_val (pe_cal C_is_integer (by decide) hr (by rfl) (pa_cons (pe_ix (ix_sqK (K := K) rfl) (pv 1) pe_int (fun _ _ => rfl)) pa_nil)))) (pw_or1 (pt_not (pt_val (pe_cal C_is_choice (by decide) hr (by rfl) (pa_cons (pe_ix (ix_sqK (K := K) rfl) (pv 1) pe_int (fun _ _ => rfl)) (pa_cons (pv 3) pa_nil)))))))))
 (pss_one (ps_ret pe_bl))
 pss_nil)
 (pss_one (ps_ret (pe_chain op_le op_le pe_int (pe_ix (ix_sqK (K := K) rfl) (pv 1) pe_int (fun _ _ => rfl)) (pe_callB (call_lenK (K := K) rfl) (by rfl) T.n_len (by decide +kernel) (pa_cons (pe_ix (ix_sqK (K := K) rfl) (pv 1) pe_int (fun _ _ => rfl)) pa_nil))))))
 pss_nil)
 (pss_cons (ps_if (pt_cmpR op_eq (pv 0) pe_str (nomark _))
 (pss_one (ps_ret (pe_and (pe_cmpR op_eq (pe_callB (call_lenK (K := K) rfl) (by rfl) T.n_len (by decide +kernel) (pa_cons (pv 1) pa_nil)) pe_int (nomark _)) (pe_one (pe_cal C_is_choice (by decide) hr (by rfl) (pa_cons (pe_ix (ix_sqK (K := K) rfl) (pv 1) pe_int (fun _ _ => rfl)) (pa_cons (pv 2) pa_nil)))))))
 pss_nil)
 (pss_one (ps_ret (pe_and (pe_cmpR (op_inK (K := K) rfl) (pv 0) (pe_tup (pa_cons pe_str (pa_cons pe_str pa_nil))) (by with_unfolding_all rfl)) (pe_and (pe_cmpR op_eq (pe_callB (call_lenK (K := K) rfl) (by rfl) T.n_len (by decide +kernel) (pa_cons (pv 1) pa_nil)) pe_int (nomark _)) (pe_one (pe_cal C_is_choice (by decide) hr (by rfl) (pa_cons (pe_ix (ix_sqK (K := K) rfl) (pv 1) pe_int (fun _ _ => rfl)) (pa_cons (pv 3) pa_nil))))))))))), ?_⟩
    cases g with
    | before n x y =>
      obtain ⟨c, rfl, h⟩ := h
      refine ⟨_, rfl, rfl, _, rfl, iteD rfl ?_⟩
      refine ⟨.ref c, rfl, c, _, rfl, .inr h, rfl, true, blT rfl, iteT ?_⟩
      exact ⟨.ref c, rfl, .ref b, rfl, ⟨.ref c, b, [x, y], ns, rfl, ⟨c, rfl, h⟩, hb, ok, q⟩⟩
    | least n m ins =>
      obtain ⟨c, d, rfl, h, hd⟩ := h
      obtain ⟨ok, o1, o2⟩ := ok
      refine ⟨_, rfl, rfl, _, rfl, iteN (litNe ne_least_before) ?_⟩
      refine ⟨_, rfl, rfl, _, rfl, iteD rfl ?_⟩
      refine ⟨.ref c, rfl, c, _, rfl, .inr h, rfl, _, rfl, iteNS rfl ?_⟩
      refine ⟨.ref c, rfl, c, _, 0, .int m, rfl, rfl, .inr h, rfl, .int m, rfl, ⟨m, rfl⟩, fun H2 s2 => ⟨true, rfl, iteF ?_⟩⟩
      have h := Same.sqt s2 h
      have hd := Same.sqt s2 hd
      have hb := Same.sq s2 hb
      refine ⟨.ref c, rfl, c, _, 1, .ref d, rfl, rfl, .inr h, rfl, .ref b, rfl, ⟨.ref d, b, ins, ns, rfl, ⟨d, rfl, hd⟩, hb, ok, fun H3 s3 => ⟨true, rfl, iteF ?_⟩⟩⟩
      have h := Same.sqt s3 h
      have hd := Same.sqt s3 hd
      refine ⟨.ref c, rfl, c, _, 0, .int m, rfl, rfl, .inr h, rfl, 1, m, rfl, rfl, true, blT o1, iteT ?_⟩
      refine ⟨.ref c, rfl, c, _, 1, .ref d, rfl, rfl, .inr h, rfl, d, _, rfl, .inr hd, m, _, rfl, rfl, ?_⟩
      show Q (V.bl (decide (m ≤ ((sV ins).length : Int)))) H3
      rw [decide_eq_true (by simp [sV]; omega)]
      exact q _ (s2.trans s3)
    | spare n qs =>
      obtain ⟨c, d, rfl, h, hd⟩ := h
      refine ⟨_, rfl, rfl, _, rfl, iteN (litNe ne_spare_before) ?_⟩
      refine ⟨_, rfl, rfl, _, rfl, iteN (litNe ne_spare_least) ?_⟩
      refine ⟨_, rfl, rfl, _, rfl, iteD rfl ?_⟩
      refine ⟨.ref c, rfl, c, _, rfl, .inr h, rfl, true, blT rfl, iteT ?_⟩
      exact ⟨.ref c, rfl, c, _, 0, .ref d, rfl, rfl, .inr h, rfl, .ref a, rfl, ⟨.ref d, a, qs, ps, rfl, ⟨d, rfl, hd⟩, ha, ok, q⟩⟩
    | all n ins =>
      obtain ⟨c, d, rfl, h, hd⟩ := h
      refine ⟨_, rfl, rfl, _, rfl, iteN (litNe ne_all_before) ?_⟩
      refine ⟨_, rfl, rfl, _, rfl, iteN (litNe ne_all_least) ?_⟩
      refine ⟨_, rfl, rfl, _, rfl, iteN (litNe ne_all_spare) ?_⟩
      refine ⟨_, rfl, by show 2 ≤ sizeLine; decide, fun p np => ?_⟩
      have s2 : Same H (upd H p (.tup (sV ["all", "any"]))) := Same.new np
      refine ⟨p, sV ["all", "any"], rfl, .inr (.of upd_same), rfl, flat_sV _, true, by show V.bl (inV (.str "all") (sV ["all", "any"])) = _; rw [inV_sV, decide_eq_true (by simp)], iteT ?_⟩
      refine ⟨.ref c, rfl, c, _, rfl, .inr (Same.sqt s2 h), rfl, true, blT rfl, iteT ?_⟩
      exact ⟨.ref c, rfl, c, _, 0, .ref d, rfl, rfl, .inr (Same.sqt s2 h), rfl, .ref b, rfl, ⟨.ref d, b, ins, ns, rfl, ⟨d, rfl, Same.sqt s2 hd⟩, Same.sq s2 hb, ok, fun H3 s3 => q _ (s2.trans s3)⟩⟩
    | any n ins =>
      obtain ⟨c, d, rfl, h, hd⟩ := h
      refine ⟨_, rfl, rfl, _, rfl, iteN (litNe ne_any_before) ?_⟩
      refine ⟨_, rfl, rfl, _, rfl, iteN (litNe ne_any_least) ?_⟩
      refine ⟨_, rfl, rfl, _, rfl, iteN (litNe ne_any_spare) ?_⟩
      refine ⟨_, rfl, by show 2 ≤ sizeLine; decide, fun p np => ?_⟩
      have s2 : Same H (upd H p (.tup (sV ["all", "any"]))) := Same.new np
      refine ⟨p, sV ["all", "any"], rfl, .inr (.of upd_same), rfl, flat_sV _, true, by show V.bl (inV (.str "any") (sV ["all", "any"])) = _; rw [inV_sV, decide_eq_true (by simp)], iteT ?_⟩
      refine ⟨.ref c, rfl, c, _, rfl, .inr (Same.sqt s2 h), rfl, true, blT rfl, iteT ?_⟩
      exact ⟨.ref c, rfl, c, _, 0, .ref d, rfl, rfl, .inr (Same.sqt s2 h), rfl, .ref b, rfl, ⟨.ref d, b, ins, ns, rfl, ⟨d, rfl, Same.sqt s2 hd⟩, Same.sq s2 hb, ok, fun H3 s3 => q _ (s2.trans s3)⟩⟩
end
end Kf

set_option Elab.async false
set_option linter.all false
set_option maxRecDepth 100000
set_option maxHeartbeats 2000000
namespace Kf
open PySem PySem.Spec PyProof.Rows L2
section
variable {P : Program} {w : World} {K : PySem.W.Frag} {mg : Str → Option Value} {base : Heap}
theorem at0 {x : V} {r : List V} : atI (x :: r) 0 = some x := atI_nat (j := 0) rfl
theorem at1 {x y : V} {r : List V} : atI (x :: y :: r) 1 = some y := atI_nat (j := 1) rfl
theorem at2 {x y z : V} {r : List V} : atI (x :: y :: z :: r) 2 = some z := atI_nat (j := 2) rfl
theorem GateAt.cut {H : Hp} {v : V} {g : G} (h : GateAt K H v g) : ∃ a rest, v = .ref a ∧ SqT K H a (.str g.name :: .str g.word :: rest) ∧ ∀ H' c, KT K H H' → SqT K H' c rest → RestAt K H' (.ref c) g := by
  cases g with
  | all n ins =>
    obtain ⟨a, b, rfl, h, h2⟩ := h
    exact ⟨a, _, rfl, h, fun H' c k hc => ⟨c, b, rfl, hc, k _ _ h2⟩⟩
  | any n ins =>
    obtain ⟨a, b, rfl, h, h2⟩ := h
    exact ⟨a, _, rfl, h, fun H' c k hc => ⟨c, b, rfl, hc, k _ _ h2⟩⟩
  | least n m ins =>
    obtain ⟨a, b, rfl, h, h2⟩ := h
    exact ⟨a, _, rfl, h, fun H' c k hc => ⟨c, b, rfl, hc, k _ _ h2⟩⟩
  | before n x y =>
    obtain ⟨a, rfl, h⟩ := h
    exact ⟨a, _, rfl, h, fun H' c k hc => ⟨c, rfl, hc⟩⟩
  | spare n ps =>
    obtain ⟨a, b, rfl, h, h2⟩ := h
    exact ⟨a, _, rfl, h, fun H' c k hc => ⟨c, b, rfl, hc, k _ _ h2⟩⟩
theorem cut_from {xs : List V} {i : Nat} (h : i ≤ xs.length) : cutV xs (some (i : Int)) none = xs.drop i := by
  unfold cutV
  have e2 : HT.sIx xs.length xs.length none = xs.length := rfl
  have e1 : HT.sIx xs.length 0 (some (i : Int)) = i := by
    rw [HT.sIx_nat]
    omega
  rw [e1, e2]
  exact List.take_of_length_le (by simp)
structure GateOk (parts names : List Str) (g : G) : Prop where
  name : NameOk g.name
  new : ¬ g.name ∈ names
  ins : GateIn parts names g
def spIsGate (K : PySem.W.Frag) : Sp := fun vs H Q _ => ∃ v a b g parts names, vs = [v, .ref a, .ref b] ∧ GateAt K H v g ∧ Sq K H a (sV parts) ∧ Sq K H b (sV names) ∧ GateOk parts names g ∧ ∀ H', Same H H' → Q (.bl true) H'
theorem ok_is_gate {f : Addr} {fd : FuncData} (F : Fun K "is_gate" "is_gate" s_is_gate f fd) (T : Nm mg) (C_is_name : Cal P w K mg base 1 "is_name" ["value"] spIsName) (C_is_watch : Cal P w K mg base 3 "is_watch" ["word", "rest", "parts", "names"] (spIsWatch K)) :
    FnOk P w K mg base CX0 4 f fd ["value", "parts", "names"] (spIsGate K) := by
  refine F.ok sc_is_gate (fun vs H Q E h => ?_) (fun cdv A outer s H vs Q E hr h => ?_)
  · obtain ⟨v, a, b, g, ps, ns, rfl, _⟩ := h
    rfl
  · obtain ⟨v, a, b, g, ps, ns, rfl, h, ha, hb, ok, q⟩ := h
    obtain ⟨c, rest, rfl, hc, hrest⟩ := h.cut
    refine ⟨_, (pss_cons (ps_if (PW.pt (pw_or (pt_not (pt_val (pe_callB call_isi (by rfl) T.n_isinstance (by decide +kernel) (pa_cons (pv 0) (pa_cons (pe_bltn (v := .ty "tuple") (by rfl) T.n_tuple (by decide +kernel) rfl) pa_nil))))) (pw_or1 (pt_cmpR op_lt (pe_callB (call_lenK (K := K) rfl) (by rfl) T.n_len (by decide +kernel) (pa_cons (pv 0) pa_nil)) pe_int (nomark _)))))
 (pss_one (ps_ret pe_bl))
 pss_nil)
 (pss_cons (ps_if (PW.pt (pw_or (pt_not (pt_val (pe_cal C_is_name (by decide) hr (by rfl) (pa_cons (pe_ix ix_tup (pv 0) pe_int (fun _ _ => rfl)) pa_nil)))) (pw_or1 (pt_cmpR (op_inK (K := K) rfl) (pe_ix ix_tup (pv 0) pe_int (fun _ _ => rfl)) (pv 2) (by with_unfolding_all rfl)))))
 (pss_one (ps_ret pe_bl))
 pss_nil)
 (pss_one (ps_ret (pe_cal C_is_watch (by decide) hr (by rfl) (pa_cons (pe_ix ix_tup (pv 0) pe_int (fun _ _ => rfl)) (pa_cons (pe_slice sl_tupA (pv 0) (po_some pe_int) po_none) (pa_cons (pv 1) (pa_cons (pv 2) pa_nil))))))))), ?_⟩
    refine ⟨.ref c, rfl, _, _, .type "tuple", .type "tuple", true, rfl, .ty _, ty_tup hc, kit_ty (by decide +kernel), true, rfl, iteF ?_⟩
    refine ⟨.ref c, rfl, c, _, rfl, .inr hc, _, 2, rfl, rfl, _, rfl, iteN (by simp; omega) ?_⟩
    refine ⟨.ref c, rfl, c, _, 0, .str g.name, rfl, rfl, hc, at0, .str g.name, rfl, ⟨g.name, rfl, ok.name⟩, fun H2 s2 => ⟨true, rfl, iteF ?_⟩⟩
    have hc := Same.sqt s2 hc
    refine ⟨.ref c, rfl, c, _, 0, .str g.name, rfl, rfl, hc, at0, .ref b, rfl, b, _, rfl, Same.sq s2 hb, rfl, flat_sV _, ?_⟩
    refine ⟨false, by show V.bl (inV (.str g.name) (sV ns)) = _; rw [inV_sV, decide_eq_false ok.new], iteF ?_⟩
    refine ⟨.ref c, rfl, c, _, 1, .str g.word, rfl, rfl, hc, at1, .ref c, rfl, 2, rfl, c, _, rfl, hc, fun hw => ?_, fun _ p np => ?_⟩
    · exfalso
      have := hw.1
      rw [show (2 : Int) = ((2 : Nat) : Int) from rfl, HT.sIx_nat] at this
      simp at this
    · have s3 : Same H2 (upd H2 p (.tup (cutV (.str g.name :: .str g.word :: rest) (some 2) none))) := Same.new np
      have s4 := s2.trans s3
      have e : cutV (.str g.name :: .str g.word :: rest) (some 2) none = rest := cut_from (i := 2) (by simp)
      refine ⟨.ref a, rfl, .ref b, rfl, ⟨.ref p, a, b, g, ps, ns, rfl, hrest _ _ (Same.kt s4) (.of (by rw [upd_same, e])), Same.sq s4 ha, Same.sq s4 hb, ok.ins, fun H5 s5 => q _ (s4.trans s5)⟩⟩
structure GatesOk (parts : List Str) (l : List G) : Prop where
  lo : 1 ≤ l.length
  hi : l.length ≤ 8
  each : ∀ i g, l[i]? = some g → GateOk parts (parts ++ (l.take i).map G.name) g
def spAreGates (K : PySem.W.Frag) : Sp := fun vs H Q _ => ∃ v a xs l parts, vs = [.ref v, .ref a] ∧ Sq K H v xs ∧ Each (GateAt K H) xs l ∧ Sq K H a (sV parts) ∧ parts.length ≤ 1000 ∧ GatesOk parts l ∧ ∀ H', Same H H' → Q (.bl true) H'
theorem ok_are_gates {f : Addr} {fd : FuncData} (F : Fun K "are_gates" "are_gates" s_are_gates f fd) (T : Nm mg) (Z : Cn mg) (C_is_list : Cal P w K mg base 1 "is_list" ["value"] (spIsList K)) (C_is_gate : Cal P w K mg base 4 "is_gate" ["value", "parts", "names"] (spIsGate K)) :
    FnOk P w K mg base CX0 5 f fd ["value", "parts"] (spAreGates K) := by
  refine F.ok sc_are_gates (fun vs H Q E h => ?_) (fun cdv A outer s H vs Q E hr h => ?_)
  · obtain ⟨v, a, xs, l, ps, rfl, _⟩ := h
    rfl
  · obtain ⟨v, a, xs, l, ps, rfl, h, he, ha, hp, ok, q⟩ := h
    have hlo := ok.lo
    have hhi := ok.hi
    have el := he.1
    refine ⟨_, (pss_cons (ps_if (PW.pt (pw_or (pt_not (pt_val (pe_cal C_is_list (by decide) hr (by rfl) (pa_cons (pv 0) pa_nil)))) (pw_or1 (pt_not (pt_chain op_le op_le pe_int (pe_callB (call_lenK (K := K) rfl) (by rfl) T.n_len (by decide +kernel) (pa_cons (pv 0) pa_nil)) (pe_gc (by rfl) Z.c_MOST_GATES))))))
 (pss_one (ps_ret pe_bl))
 pss_nil)
 (pss_cons (ps_set (i := 2) sc_are_gates.nd rfl (.inl rfl) (pe_callTy call_list_of (by rfl) T.n_list (by decide +kernel) (pa_cons (pv 1) pa_nil)))
 (pss_cons (ps_for PassesOwn.never rfl (pi_sq (pv 0)) (pg_name (i := 3) sc_are_gates.nd rfl (.inl rfl))
 (pss_cons (ps_if (pt_not (pt_val (pe_cal C_is_gate (by decide) hr (by rfl) (pa_cons (pv 3) (pa_cons (pv 1) (pa_cons (pv 2) pa_nil))))))
 (pss_one (ps_ret pe_bl))
 pss_nil)
 (pss_one (ps_expr (pe_bm PySem.F.plainAttrs_list PySem.F.slot_list_append PySem.F.type_list_append mt_append (pv 2) (pa_cons (pe_ix (ix_sqK (K := K) rfl) (pv 3) pe_int (fun _ _ => rfl)) pa_nil))))))
 (pss_one (ps_ret pe_bl))))), ?_⟩
    refine ⟨.ref v, rfl, .ref v, rfl, ⟨v, xs, rfl, h⟩, fun H2 s2 => ⟨true, rfl, iteF ?_⟩⟩
    have h := Same.sq s2 h
    refine ⟨.ref v, rfl, v, xs, rfl, h, 1, _, rfl, rfl, true, blT (by omega), iteT ⟨_, 8, rfl, rfl, true, blT (by omega), iteF ?_⟩⟩
    refine ⟨.ref a, rfl, a, _, rfl, Same.sq s2 ha, fun n nn => ?_⟩
    obtain ⟨d, hd⟩ := h.b
    have s3 : Same H2 (upd H2 n (.lst (sV ps))) := Same.new nn
    refine ⟨.ref v, rfl, v, d, rfl, ⟨_, Same.sqb s3 hd⟩, for_it (walk_sq (xs := xs)) (fun i σ H3 => ∃ y, σ = [some (.ref v), some (.ref a), some (.ref n), y] ∧ Same H2 H3 ∧ H3 n = some (.lst (sV (ps ++ (l.take i).map G.name)))) ⟨none, rfl, s3, by rw [upd_same]; simp⟩ (fun i σ H3 hi p => ?_) (fun i x σ H3 H4 hi p y => ?_) (fun σ H3 p => ?_)⟩
    · obtain ⟨y, rfl, sm, hn⟩ := p
      exact Same.sqb sm hd
    · obtain ⟨_, rfl, sm, hn⟩ := p
      obtain ⟨rfl, hx⟩ := y
      obtain ⟨g, hg, r⟩ := he.2 i x hx
      have s5 := s2.trans sm
      have gok := ok.each i g hg
      refine ⟨x, rfl, .ref a, rfl, .ref n, rfl, ⟨x, a, n, g, ps, _, rfl, GateAt.kt (Same.kt s5) r, Same.sq s5 ha, .inl (.of hn), gok, fun H5 s6 => ?_⟩⟩
      refine ⟨true, rfl, iteF ?_⟩
      obtain ⟨c, rest, rfl, hc, _⟩ := (GateAt.kt (Same.kt (s5.trans s6)) r).cut
      have hn5 := s6 _ _ hn
      refine ⟨.ref n, rfl, .inl ⟨rfl, _, .of hn5⟩, .ref c, rfl, c, _, 0, .str g.name, rfl, rfl, .inr hc, at0, n, _, .str g.name, rfl, rfl, hn5, ?_, ?_⟩
      · rw [sizeLine_eq]
        simp [sV]
        omega
      · refine ⟨_, rfl, Same.at (sm.trans s6) nn, ?_⟩
        rw [upd_same, List.take_add_one, hg]
        simp [sV]
    · obtain ⟨y, rfl, sm, hn⟩ := p
      exact q _ (s2.trans sm)
end
end Kf

set_option Elab.async false
set_option linter.all false
set_option maxRecDepth 100000
set_option maxHeartbeats 2000000
namespace Kf
open PySem PySem.Spec PyProof.Rows L2
/-! ### list(d.values()) -/
def tListVals (te : TE) : TE := fun σ H Q => te σ H fun x H1 => ∃ (d : Addr) (kvs : List (Key × V)), x = .ref d ∧ H1 d = some (.dK kvs) ∧ ∀ p, H1 p = none → Q (.ref p) (upd H1 p (.lst (kvs.map (·.2))))
theorem kv_both {kvs : List (Key × V)} {vs : List (Key × Value)} (r : KV kvs vs) : ∀ {j : Nat} {x : V} {k : Key} {u : Value}, (kvs.map (·.2))[j]? = some x → vs[j]? = some (k, u) → RelV x u := by
  unfold KV at r
  induction r with
  | nil =>
    intro j x k u h
    simp at h
  | cons r t ih =>
    intro j x k u h1 h2
    cases j with
    | zero =>
      have e1 := Option.some.inj h1
      have e2 := Option.some.inj h2
      rw [e2] at r
      rw [← e1]
      exact r.2
    | succ j => exact ih (by simpa using h1) (by simpa using h2)
section
variable {X : Cx} {e : Expr} {te : TE} {p apos cpos pos : Pos}
theorem pe_listVals (hc : X.calm = true) (he : PE X e te) (hg : Gl X "list") (hm : X.mg "list" = none) (hv : bootBuiltins "list" = some (.type "list")) (hbase : attributeBase e "values" X.env (eval e X.env) = eval e X.env := by rfl) (hline : (apos.endLine == cpos.line) = true := by rfl)
    (hs : starEach [.Call (.Attribute e "values" apos) [] [] cpos] X.env = (false, eval (.Call (.Attribute e "values" apos) [] [] cpos) X.env) :: starEach [] X.env := by rfl) :
    PE X (.Call (.Name "list" p) [.Call (.Attribute e "values" apos) [] [] cpos] [] pos) (tListVals te) := by
  refine ⟨fun pins s σ H Q I hq => ?_⟩
  refine wpAny_Call_Name_kw (ld_blt I hg hm hv ?_)
  refine PyProof.Rows.callWith_type1 ?_ hs rfl
  rw [hs]
  show wpAny _ _ (spliced ((false, eval (.Call (.Attribute e "values" apos) [] [] cpos) X.env) :: backTo pos (starEach [] X.env))) _ _ s
  refine Calls.spliced_cons ?_
  refine wpAny_Call_method (T := "dict") (id := "dict.values") hbase rfl hline F.plainAttrs_dict F.slot_dict_values F.type_dict_values (thn (he.run pins s σ H _ I hq) fun u s1 ⟨x, H1, I1, rx, d, kvs, ex, hd, q⟩ => ?_)
  subst ex
  obtain rfl : u = Value.ref d := rx
  obtain ⟨hz, hs0, vs, kv, hdo⟩ := I1.hok d _ hd
  obtain ⟨ep, hat⟩ := hdo.dictAt
  have lk : kvs.length = vs.length := Paired.length kv
  have I2 : Inv X pins σ H1 { s1 with heap := s1.heap.push { cls := .type "dict_values", data := .fields #[.ref d] } } := I1.kept (t' := s1.toks) fun b ob q => Heap.get?_push_of_some _ q
  refine ⟨hdo.typeIs, hdo.mapOf.noDict, ?_⟩
  show wpAny _ _ (callWith cpos (.builtin "dict.values") [.ref d] [] []) _ X.xe s1
  refine method_meetsIn F.slot_dict_values F.entry_dict_values rfl (PySem.evalArgs_none ⟨rfl, hdo.typeIs, F.args_dict_values_1 _, _, meets_dict_values (mixKind X.prog X.w) d hs0, ⟨vs, hdo⟩, ?_⟩)
  refine Calls.spliced_nil ?_
  refine PySem.W.kdl_call (PySem.W.kdl_values (knd := mixKind X.prog X.w) (kvs := vs) (ep := ep)) (I1.ok.hd hc) ⟨⟨_, Heap.get?_push_size _ rfl, rfl, rfl⟩, hat.keep fun b ob q => Heap.get?_push_of_some _ q⟩ (by omega) fun h' tk acc c hk hS hacc => ?_
  refine ⟨.ref _, upd H1 _ (.lst (kvs.map (·.2))), I2.laid (t' := tk) hk (Nat.le_refl _) (show ObjOk X.prog X.w _ _ _ (.lst (kvs.map (·.2))) from ⟨by rw [List.length_map]; exact hz, acc.toList, c, ?_, by rw [Array.toArray_toList]; exact hS⟩), rfl, q _ (I2.hok.fresh (Nat.le_refl _))⟩
  refine vals_of_at (by rw [List.length_map]; have h1 := hacc.1; have h2 : acc.toList.length = acc.size := by simp
                        omega) fun j x u h1 h2 => ?_
  obtain ⟨k, hk2⟩ := hacc.2 j u (by rw [← Array.getElem?_toList]; exact h2)
  exact kv_both kv h1 hk2
end
end Kf

set_option Elab.async false
set_option linter.all false
set_option maxRecDepth 100000
set_option maxHeartbeats 2000000
namespace Kf
open PySem PySem.Spec PyProof.Rows L2
/-! ## tables by name -/
section
variable {α : Type}
def dS (f : α → V) (l : List (Str × α)) : List (Key × V) := l.map fun p => (.inr p.1, f p.2)
def setA (l : List (Str × α)) (n : Str) (x : α) : List (Str × α) := if (l.any fun p => decide (p.1 = n)) = true then l.map (fun p => if p.1 = n then (p.1, x) else p) else l ++ [(n, x)]
def getA (l : List (Str × α)) (n : Str) : Option α := (l.find? fun p => decide (p.1 = n)).map (·.2)
theorem valV_dS (f : α → V) (n : Str) : ∀ l : List (Str × α), valV (dS f l) (.inr n) = (getA l n).map f
  | [] => rfl
  | p :: r => by
    by_cases h : p.1 = n
    · have h2 : ((.inr p.1 : Key), f p.2).1 = (.inr n : Key) := congrArg Sum.inr h
      rw [show dS f (p :: r) = ((.inr p.1 : Key), f p.2) :: dS f r from rfl, valV_pos h2]
      simp [getA, h]
    · have h2 : ¬ ((.inr p.1 : Key), f p.2).1 = (.inr n : Key) := fun e => h (Sum.inr.inj e)
      rw [show dS f (p :: r) = ((.inr p.1 : Key), f p.2) :: dS f r from rfl, valV_neg h2, valV_dS f n r]
      simp [getA, h]
theorem any_dS (f : α → V) (n : Str) : ∀ l : List (Str × α), ((dS f l).any fun kv => decide (kv.1 = (.inr n : Key))) = l.any fun p => decide (p.1 = n)
  | [] => rfl
  | p :: r => by
    rw [show dS f (p :: r) = ((.inr p.1 : Key), f p.2) :: dS f r from rfl, List.any_cons, List.any_cons, any_dS f n r]
    by_cases h : p.1 = n
    · simp [h]
    · simp [h]
theorem map_dS (f : α → V) (n : Str) (x : α) : ∀ l : List (Str × α), (dS f l).map (fun kv => if kv.1 = (.inr n : Key) then (kv.1, f x) else kv) = dS f (l.map fun p => if p.1 = n then (p.1, x) else p)
  | [] => rfl
  | p :: r => by
    rw [show dS f (p :: r) = ((.inr p.1 : Key), f p.2) :: dS f r from rfl, List.map_cons, map_dS f n x r]
    by_cases h : p.1 = n
    · subst h
      simp [dS]
    · simp [dS, h]
theorem putK_dS (f : α → V) (l : List (Str × α)) (n : Str) (x : α) : putK (dS f l) (.inr n) (f x) = dS f (setA l n x) := by
  unfold putK setA
  rw [any_dS]
  by_cases h : (l.any fun p => decide (p.1 = n)) = true
  · rw [if_pos h, if_pos h, map_dS]
  · rw [if_neg h, if_neg h]
    simp [dS]
theorem dS_len (f : α → V) (l : List (Str × α)) : (dS f l).length = l.length := List.length_map ..
theorem dS_vals (f : α → V) (l : List (Str × α)) : (dS f l).map (·.2) = (l.map (·.2)).map f := by simp [dS]
theorem getA_any {l : List (Str × α)} {n : Str} {x : α} (h : getA l n = some x) : (l.any fun p => decide (p.1 = n)) = true := by
  unfold getA at h
  obtain ⟨p, hp, _⟩ := Option.map_eq_some_iff.mp h
  have e := List.find?_some hp
  exact List.any_eq_true.mpr ⟨p, List.mem_of_find?_eq_some hp, by simpa using e⟩
theorem setA_len {l : List (Str × α)} {n : Str} {x : α} (h : (l.any fun p => decide (p.1 = n)) = true) : (setA l n x).length = l.length := by
  unfold setA
  rw [if_pos h, List.length_map]
theorem setA_keys {l : List (Str × α)} {n : Str} {x : α} (h : (l.any fun p => decide (p.1 = n)) = true) : (setA l n x).map (·.1) = l.map (·.1) := by
  unfold setA
  rw [if_pos h, List.map_map]
  refine List.map_congr_left fun p _ => ?_
  show (if p.1 = n then (p.1, x) else p).1 = p.1
  split <;> rfl
theorem any_keys {l l' : List (Str × α)} (h : l.map (·.1) = l'.map (·.1)) (n : Str) : (l.any fun p => decide (p.1 = n)) = l'.any fun p => decide (p.1 = n) := by
  have e : ∀ m : List (Str × α), (m.any fun p => decide (p.1 = n)) = (m.map (·.1)).any fun q => decide (q = n) := fun m => by rw [List.any_map]; rfl
  rw [e, e, h]
theorem getA_of_any {l : List (Str × α)} {n : Str} (h : (l.any fun p => decide (p.1 = n)) = true) : ∃ x, getA l n = some x := by
  unfold getA
  cases e : l.find? fun p => decide (p.1 = n) with
  | none =>
    have := List.find?_eq_none.mp e
    obtain ⟨p, hp, h2⟩ := List.any_eq_true.mp h
    exact absurd h2 (this p hp)
  | some p => exact ⟨p.2, rfl⟩
end
theorem filter_one {α : Type} (p : α → Bool) (x : α) : [x].filter p = if p x = true then [x] else [] := by simp [List.filter_cons]
/-! ## what spare gates use -/
abbrev Uses := List (Str × Str)
def freeOf (fl : List Str) (us : Uses) (ps : List Str) : List Str := ps.filter fun p => !decide (p ∈ fl) && !decide (p ∈ us.map (·.2))
def emptyS : Str := ""
def take1 (fl : List Str) (us : Uses) : G → Uses
  | .spare n ps => if (getA us n).getD emptyS = emptyS ∨ (getA us n).getD emptyS ∈ fl then setA us n ((freeOf fl us ps).headD emptyS) else us
  | _ => us
def takeU (fl : List Str) (us : Uses) (gs : List G) : Uses := gs.foldl (take1 fl) us
/-- each spare gate has its place -/
def SpareIn (us : Uses) (gs : List G) : Prop := ∀ n ps, G.spare n ps ∈ gs → (us.any fun p => decide (p.1 = n)) = true
theorem take1_keys {fl : List Str} {us : Uses} {g : G} (h : ∀ n ps, g = G.spare n ps → (us.any fun p => decide (p.1 = n)) = true) : (take1 fl us g).map (·.1) = us.map (·.1) := by
  cases g with
  | spare n ps =>
    show (if (getA us n).getD emptyS = emptyS ∨ (getA us n).getD emptyS ∈ fl then setA us n ((freeOf fl us ps).headD emptyS) else us).map (·.1) = us.map (·.1)
    split
    · exact setA_keys (h n ps rfl)
    · rfl
  | _ => rfl
theorem takeU_keys {fl : List Str} : ∀ {gs : List G} {us : Uses}, SpareIn us gs → (takeU fl us gs).map (·.1) = us.map (·.1)
  | [], _, _ => rfl
  | g :: gs, us, h => by
    have e := take1_keys (fl := fl) (us := us) (g := g) (fun n ps e => h n ps (e ▸ List.mem_cons_self ..))
    show (takeU fl (take1 fl us g) gs).map (·.1) = _
    rw [takeU_keys fun n ps hm => ?_, e]
    rw [any_keys e]
    exact h n ps (List.mem_cons_of_mem _ hm)
theorem takeU_succ {fl : List Str} {us : Uses} {gs : List G} {i : Nat} {g : G} (h : gs[i]? = some g) : takeU fl us (gs.take (i + 1)) = take1 fl (takeU fl us (gs.take i)) g := by
  unfold takeU
  rw [List.take_add_one, h]
  simp
section
variable {P : Program} {w : World} {K : PySem.W.Frag} {mg : Str → Option Value} {base : Heap}
def spTakeU (K : PySem.W.Frag) : Sp := fun vs H Q _ => ∃ a b c xs gs us fl, vs = [.ref a, .ref b, .ref c] ∧ Sq K H a xs ∧ Each (GateAt K H) xs gs ∧ H b = some (.dK (dS V.str us)) ∧ Sq K H c (sV fl) ∧ SpareIn us gs ∧ us.length ≤ 1000 ∧ (∀ n ps, G.spare n ps ∈ gs → ps.length ≤ 1000) ∧
  ∀ H' p, Same H H' → H p = none → H' p = some (.dK (dS V.str (takeU fl us gs))) → Q (.ref p) H'
theorem ok_take_ {f : Addr} {fd : FuncData} {k : Nat} (F : Fun K "take" "take" s_take f fd) (T : Nm mg) : FnOk P w K mg base CX0 (k + 1) f fd ["gates", "uses", "failed"] (spTakeU K) := by
  refine F.ok sc_take (fun vs H Q E h => ?_) (fun cdv A outer s H vs Q E hr h => ?_)
  · obtain ⟨a, b, c, xs, gs, us, fl, rfl, _⟩ := h
    rfl
  · obtain ⟨a, b, c, xs, gs, us, fl, rfl, h, he, hb, hc, hsp, hul, hpl, q⟩ := h
    have hu := hu_of hr
    refine ⟨_, (pss_cons (ps_set (i := 3) sc_take.nd rfl (.inl rfl) (pe_callTy call_dictD (by rfl) T.n_dict (by decide +kernel) (pa_cons (pv 1) pa_nil)))
 (pss_cons (ps_for PassesOwn.never rfl (pi_sq (pv 0)) (pg_name (i := 4) sc_take.nd rfl (.inl rfl))
 (pss_one (ps_if (PW.pt (pw_and (pt_cmpR op_eq (pe_ix (ix_sqK (K := K) rfl) (pv 4) pe_int (fun _ _ => rfl)) pe_str (nomark _)) (pw_and1 (PW.pt (pw_or (pt_cmpR op_eq (pe_dget hu (pv 3) (pe_ix (ix_sqK (K := K) rfl) (pv 4) pe_int (fun _ _ => rfl)) (fun _ _ => rfl)) pe_str (nomark _)) (pw_or1 (pt_cmpR (op_inK (K := K) rfl) (pe_dget hu (pv 3) (pe_ix (ix_sqK (K := K) rfl) (pv 4) pe_int (fun _ _ => rfl)) (fun _ _ => rfl)) (pv 2) (by with_unfolding_all rfl))))))))
 (pss_cons (ps_set (i := 5) sc_take.nd rfl (.inr rfl) (pe_listVals rfl (pv 3) (by rfl) T.n_list (by decide +kernel)))
 (pss_cons (ps_setLc (i := 6) (own := [("part", 7)]) (g := gName 7) (by rfl) sc_take.nd rfl rfl (sw_true rfl rfl rfl (by decide +kernel)) (pi_sq (pe_ix (ix_sqK (K := K) rfl) (pv 4) pe_int (fun _ _ => rfl))) (blkOk_by (own := [("part", 7)]) (N := ["gates", "uses", "failed", "now", "gate", "used", "free", "part"]) (sc := defScope s_take) (by decide +kernel)) (fun _ _ _ _ _ => pg_name (i := 7) sc_take.nd rfl (.inl rfl)) (fun _ _ _ _ _ => pts_one (PW.pt (pw_and (pt_cmpR (op_notInK (K := K) rfl) (pv 7) (pv 2) (by with_unfolding_all rfl)) (pw_and1 (pt_cmpR (op_notInK (K := K) rfl) (pv 7) (pv 5) (by with_unfolding_all rfl)))))) (fun _ _ _ _ _ => (pv 7)))
 (pss_one (ps_dput hu (pv 3) (pe_ix (ix_sqK (K := K) rfl) (pv 4) pe_int (fun _ _ => rfl)) (pe_ifExp (pt_truth (pv 6) (by intro _; rfl)) (pe_ix ix_list (pv 6) pe_int (fun _ _ => rfl)) pe_str) rfl))))
 pss_nil)))
 (pss_one (ps_ret (pv 3))))), ?_⟩
    refine ⟨.ref b, rfl, b, _, rfl, .inl hb, fun n nn => ?_⟩
    obtain ⟨d, hd⟩ := h.b
    have s0 : Same H (upd H n (.dK (dS V.str us))) := Same.new nn
    have el := he.1
    refine ⟨.ref a, rfl, a, d, rfl, ⟨_, Same.sqb s0 hd⟩, for_it (walk_sq (xs := xs)) (fun i σ H2 => ∃ y4 y5 y6 y7, σ = [some (.ref a), some (.ref b), some (.ref c), some (.ref n), y4, y5, y6, y7] ∧ Same H H2 ∧ H2 n = some (.dK (dS V.str (takeU fl us (gs.take i))))) ⟨_, _, _, _, rfl, s0, upd_same⟩ (fun i σ H2 hi p => ?_) (fun i x σ H2 H3 hi p y => ?_) (fun σ H2 p => ?_)⟩
    · obtain ⟨_, _, _, _, _, sm, _⟩ := p
      exact Same.sqb sm hd
    · obtain ⟨y4, y5, y6, y7, rfl, sm, hn⟩ := p
      obtain ⟨rfl, hx⟩ := y
      obtain ⟨g, hg, r⟩ := he.2 i x hx
      have r := GateAt.kt (Same.kt sm) r
      have hmem := List.mem_of_getElem? hg
      have sucE := takeU_succ (fl := fl) (us := us) hg
      obtain ⟨t, rest, rfl, ht, _⟩ := r.cut
      refine ⟨.ref t, rfl, t, _, 1, .str g.word, rfl, rfl, .inr ht, at1, rfl, _, rfl, ?_⟩
      cases g with
      | spare nm ps =>
        refine iteD rfl ?_
        obtain ⟨t', u, e, ht', hu'⟩ := r
        cases e
        have hkey : ((takeU fl us (gs.take i)).any fun p => decide (p.1 = nm)) = true := by
          rw [any_keys (takeU_keys (fl := fl) (gs := gs.take i) fun n' ps' hm => hsp n' ps' (List.mem_of_mem_take hm))]
          exact hsp nm ps hmem
        obtain ⟨z, hz⟩ := getA_of_any hkey
        have hget : DGet H3 n (.str nm) (some (.str z)) := by
          have q := DGet.k (k := .inr nm) hn
          rw [valV_dS, hz] at q
          exact q
        have hlen : (takeU fl us (gs.take i)).length = us.length := by
          have e := congrArg List.length (takeU_keys (fl := fl) (gs := gs.take i) (us := us) fun n' ps' hm => hsp n' ps' (List.mem_of_mem_take hm))
          simpa using e
        refine tOr_pure (decide (z = emptyS)) (decide (z ∈ fl)) (fun Q' q' => ?_) (fun _ Q' q' => ?_) ?_
        · refine ⟨.ref n, rfl, .ref t, rfl, t, _, 0, .str nm, rfl, rfl, .inr ht', rfl, n, _, rfl, hget, rfl, _, rfl, ?_⟩
          show Q' (decide (V.str z = V.str emptyS)) H3
          rw [decStr]
          exact q'
        · refine ⟨.ref n, rfl, .ref t, rfl, t, _, 0, .str nm, rfl, rfl, .inr ht', rfl, n, _, rfl, hget, .ref c, rfl, c, _, rfl, Same.sq sm hc, rfl, flat_sV _, decide (z ∈ fl), ?_, q'⟩
          show V.bl (inV (.str z) (sV fl)) = _
          rw [inV_sV]
        have keep : ((getA (takeU fl us (gs.take i)) nm).getD emptyS = emptyS ∨ (getA (takeU fl us (gs.take i)) nm).getD emptyS ∈ fl) ↔ (z = emptyS ∨ z ∈ fl) := by rw [hz]; rfl
        refine ite2 (fun e => ?_) (fun e => ?_)
        · have hyes : z = emptyS ∨ z ∈ fl := by simpa using e
          have hvl : (dS V.str (takeU fl us (gs.take i))).map (·.2) = sV ((takeU fl us (gs.take i)).map (·.2)) := dS_vals _ _
          refine ⟨.ref n, rfl, n, _, rfl, hn, fun L nL => ?_⟩
          rw [hvl]
          have s4 : Same H3 (upd H3 L (.lst (sV ((takeU fl us (gs.take i)).map (·.2))))) := Same.new nL
          have atL : ∀ H5, Same (upd H3 L (.lst (sV ((takeU fl us (gs.take i)).map (·.2))))) H5 → H5 L = some (.lst (sV ((takeU fl us (gs.take i)).map (·.2)))) := fun H5 s5 => s5 _ _ upd_same
          have hps := hpl nm ps hmem
          refine ⟨.ref t, rfl, t, _, 2, .ref u, rfl, rfl, .inr (Same.sqt s4 ht'), rfl, u, false, rfl, ⟨_, Same.sqt s4 hu'⟩, fun D nD => ?_⟩
          refine lc_it (walk_sq (xs := sV ps)) (LP _ D fun j => sV (freeOf fl (takeU fl us (gs.take i)) (ps.take j))) (LP.zero nD rfl) (fun _ _ _ p => Same.sqb (b := false) p.sm (Same.sqt s4 hu')) (fun j x H5 H6 hj p y => ?_) (fun H5 p => ?_)
          · obtain ⟨rfl, hx⟩ := y
            have hj2 : j < ps.length := by simpa [sV] using hj
            have hx2 : (sV ps)[j]? = some (.str ps[j]) := by simp [sV, hj2]
            obtain rfl : x = .str ps[j] := Option.some.inj (hx.symm.trans hx2)
            have sc6 := Same.sq ((sm.trans s4).trans p.sm) hc
            have eT : ps.take (j + 1) = ps.take j ++ [ps[j]] := by rw [List.take_add_one, List.getElem?_eq_getElem hj2]; rfl
            refine ⟨rfl, tAnd_pure (!decide (ps[j] ∈ fl)) (!decide (ps[j] ∈ (takeU fl us (gs.take i)).map (·.2))) (fun Q' q' => ?_) (fun _ Q' q' => ?_) ?_⟩
            · refine ⟨.str ps[j], rfl, .ref c, rfl, c, _, rfl, sc6, rfl, flat_sV _, !decide (ps[j] ∈ fl), ?_, q'⟩
              show V.bl (!inV (.str ps[j]) (sV fl)) = _
              rw [inV_sV]
            · refine ⟨.str ps[j], rfl, .ref L, rfl, L, _, rfl, .inl (.of (atL _ p.sm)), rfl, flat_sV _, !decide (ps[j] ∈ (takeU fl us (gs.take i)).map (·.2)), ?_, q'⟩
              show V.bl (!inV (.str ps[j]) (sV _)) = _
              rw [inV_sV]
            · have eF : freeOf fl (takeU fl us (gs.take i)) (ps.take (j + 1)) = freeOf fl (takeU fl us (gs.take i)) (ps.take j) ++ (if (!decide (ps[j] ∈ fl) && !decide (ps[j] ∈ (takeU fl us (gs.take i)).map (·.2))) = true then [ps[j]] else []) := by
                unfold freeOf
                rw [eT, List.filter_append, filter_one]
              refine ite2 (fun e => ?_) (fun e => ?_)
              · refine ⟨.str ps[j], rfl, ?_⟩
                refine p.put nD (Same.refl _) ?_ ?_
                · rw [eF, if_pos e]
                  simp [sV]
                · rw [sizeLine_eq]
                  have : (freeOf fl (takeU fl us (gs.take i)) (ps.take j)).length ≤ (ps.take j).length := List.length_filter_le ..
                  simp [sV] at this ⊢
                  omega
              · refine p.skip (Same.refl _) ?_
                rw [eF, if_neg e]
                simp
          · have hnn : ∀ {o}, H3 n = some o → H5 n = some o := fun e => p.sm _ _ (s4 _ _ e)
            have hD : H5 D = some (.lst (sV (freeOf fl (takeU fl us (gs.take i)) ps))) := by
              rw [p.at_]
              simp [sV, List.take_of_length_le]
            have s5 := (sm.trans s4).trans p.sm
            have ht5 := Same.sqt (s4.trans p.sm) ht'
            have fin : ∀ x : Str, x = (freeOf fl (takeU fl us (gs.take i)) ps).headD emptyS → Same H (upd H5 n (.dK (putK (dS V.str (takeU fl us (gs.take i))) (.inr nm) (.str x)))) ∧ (upd H5 n (.dK (putK (dS V.str (takeU fl us (gs.take i))) (.inr nm) (.str x)))) n = some (.dK (dS V.str (takeU fl us (gs.take (i + 1))))) := fun x ex => ⟨Same.at s5 nn, by
              rw [upd_same, putK_dS V.str, sucE, ex]
              show _ = some (HO.dK (dS V.str (if _ then _ else _)))
              rw [if_pos (keep.mpr hyes)]⟩
            have hn5 := hnn hn
            have pD : ∀ x : Str, DPut H5 n (.str nm) (.str x) (upd H5 n (.dK (putK (dS V.str (takeU fl us (gs.take i))) (.inr nm) (.str x)))) := fun x => DPut.k (k := .inr nm) hn5 (small1000 (by rw [dS_len]; omega))
            refine ⟨.ref D, rfl, !(sV (freeOf fl (takeU fl us (gs.take i)) ps)).isEmpty, .inl ⟨_, .of hD, rfl⟩, ?_⟩
            cases ef : freeOf fl (takeU fl us (gs.take i)) ps with
            | nil =>
              have ex : emptyS = (freeOf fl (takeU fl us (gs.take i)) ps).headD emptyS := by rw [ef]; rfl
              refine iteF ⟨.ref n, rfl, .ref t, rfl, t, _, 0, .str nm, rfl, rfl, .inr ht5, rfl, n, _, rfl, pD emptyS, ?_⟩
              exact ⟨_, _, _, _, rfl, fin _ ex⟩
            | cons x r =>
              have ex : x = (freeOf fl (takeU fl us (gs.take i)) ps).headD emptyS := by rw [ef]; rfl
              rw [ef] at hD
              refine iteT ⟨.ref D, rfl, D, _, 0, .str x, rfl, rfl, .of hD, at0, .ref n, rfl, .ref t, rfl, t, _, 0, .str nm, rfl, rfl, .inr ht5, rfl, n, _, rfl, pD x, ?_⟩
              exact ⟨_, _, _, _, rfl, fin _ ex⟩
        · have hno : ¬ (z = emptyS ∨ z ∈ fl) := by simpa using e
          refine ⟨_, _, _, _, rfl, sm, ?_⟩
          rw [sucE, hn]
          show _ = some (HO.dK (dS V.str (if _ then _ else _)))
          rw [if_neg (fun z => hno (keep.mp z))]
      | all _ _ => exact iteN (litNe ne_all_spare) ⟨_, _, _, _, rfl, sm, by rw [sucE]; exact hn⟩
      | any _ _ => exact iteN (litNe ne_any_spare) ⟨_, _, _, _, rfl, sm, by rw [sucE]; exact hn⟩
      | least _ _ _ => exact iteN (litNe ne_least_spare) ⟨_, _, _, _, rfl, sm, by rw [sucE]; exact hn⟩
      | before _ _ _ => exact iteN (litNe ne_before_spare) ⟨_, _, _, _, rfl, sm, by rw [sucE]; exact hn⟩
    · obtain ⟨_, _, _, _, rfl, sm, hn⟩ := p
      rw [el, List.take_length] at hn
      exact ⟨.ref n, rfl, q _ n sm nn hn⟩
end
end Kf

set_option Elab.async false
set_option linter.all false
set_option maxRecDepth 100000
set_option maxHeartbeats 2000000
namespace Kf
open PySem PySem.Spec PyProof.Rows L2
theorem dc_it {J : It} {n : Nat} {G : Hp → Prop} {Y : Nat → Hp → V → Hp → Prop} (w : Walk J n G Y) {g : TG} {tt : TT} {tk tv : TE} {vs : List Nat} {σ : L2.St} {H1 : Hp} {D : Addr} {Qd : Hp → Prop} (Pv : Nat → Hp → Prop) (h0 : Pv 0 (upd H1 D (.dK []))) (hG : ∀ i H, i ≤ n → Pv i H → G H)
    (hs : ∀ i x H H', i < n → Pv i H → Y i H x H' → g x (wipe σ vs) H' fun σ2 H2 => wipe σ2 vs = wipe σ vs ∧ tt σ2 H2 fun b H3 =>
      if b = true then tk σ2 H3 fun y H4 => tv σ2 H4 fun z H5 => ∃ kvs k, y = kV k ∧ H5 D = some (.dK kvs) ∧ kvs.length < sizeLine ∧ Pv (i + 1) (upd H5 D (.dK (putK kvs k z))) else Pv (i + 1) H3) (hd : ∀ H, Pv n H → Qd H) :
    ∃ W : Nat → Nat → Hp → Prop, (∃ m, W 0 m (upd H1 D (.dK []))) ∧ ∀ i m H, W i m H →
      (J.stop i H ∧ Qd H) ∨ (J.go i H ∧ ∃ Nx : Hp → Prop, (∀ H', Nx H' → ∃ m', m' < m ∧ W (i + 1) m' H') ∧ ∀ x H', J.yld i H x H' → g x (wipe σ vs) H' fun σ2 H2 => wipe σ2 vs = wipe σ vs ∧ tt σ2 H2 fun b H3 =>
        if b = true then tk σ2 H3 fun y H4 => tv σ2 H4 fun z H5 => ∃ kvs k, y = kV k ∧ H5 D = some (.dK kvs) ∧ kvs.length < sizeLine ∧ Nx (upd H5 D (.dK (putK kvs k z))) else Nx H3) := by
  refine ⟨fun i m H => m = n - i ∧ i ≤ n ∧ Pv i H, ⟨n, by simp, Nat.zero_le _, h0⟩, ?_⟩
  rintro i m H ⟨rfl, hi, p⟩
  have q := hG i H hi p
  by_cases hlt : i < n
  · refine .inr ⟨w.goes i H hlt q, Pv (i + 1), fun H' p' => ⟨n - (i + 1), by omega, rfl, hlt, p'⟩, fun x H' y => hs i x H H' hlt p (w.yields i H x H' hlt q y)⟩
  · have e : i = n := by omega
    subst e
    exact .inl ⟨w.stops H q, hd H p⟩
structure DP (H1 : Hp) (D : Addr) (acc : Nat → List (Key × V)) (i : Nat) (H : Hp) : Prop where
  sm : Same H1 H
  at_ : H D = some (.dK (acc i))
theorem DP.zero {H1 : Hp} {D : Addr} {acc : Nat → List (Key × V)} (n : H1 D = none) (h : acc 0 = []) : DP H1 D acc 0 (upd H1 D (.dK [])) := ⟨Same.new n, by rw [upd_same, h]⟩
theorem DP.put {H1 H H4 : Hp} {D : Addr} {acc : Nat → List (Key × V)} {i : Nat} {y z : V} {k : Key} (p : DP H1 D acc i H) (n : H1 D = none) (hy : y = kV k) (sm : Same H H4) (ha : acc (i + 1) = putK (acc i) k z) (hl : (acc i).length < sizeLine) :
    ∃ kvs k, y = kV k ∧ H4 D = some (.dK kvs) ∧ kvs.length < sizeLine ∧ DP H1 D acc (i + 1) (upd H4 D (.dK (putK kvs k z))) :=
  ⟨acc i, k, hy, sm _ _ p.at_, hl, Same.at (p.sm.trans sm) n, by rw [upd_same, ha]⟩
theorem DP.skip {H1 H H4 : Hp} {D : Addr} {acc : Nat → List (Key × V)} {i : Nat} (p : DP H1 D acc i H) (sm : Same H H4) (ha : acc (i + 1) = acc i) : DP H1 D acc (i + 1) H4 := ⟨p.sm.trans sm, by rw [ha]; exact sm _ _ p.at_⟩
theorem setA_le {α : Type} (l : List (Str × α)) (n : Str) (x : α) : (setA l n x).length ≤ l.length + 1 := by
  unfold setA
  split
  · rw [List.length_map]; omega
  · rw [List.length_append]; exact Nat.le_refl _
theorem setA_any {α : Type} (l : List (Str × α)) (n m : Str) (x : α) : ((setA l n x).any fun p => decide (p.1 = m)) = ((l.any fun p => decide (p.1 = m)) || decide (n = m)) := by
  by_cases h : (l.any fun p => decide (p.1 = n)) = true
  · rw [any_keys (setA_keys h)]
    by_cases e : n = m
    · subst e
      rw [h]
      rfl
    · rw [decide_eq_false e, Bool.or_false]
  · unfold setA
    rw [if_neg h, List.any_append]
    simp
theorem fold_succ {α β : Type} (f : β → α → β) (b : β) {l : List α} {i : Nat} {x : α} (h : l[i]? = some x) : (l.take (i + 1)).foldl f b = f ((l.take i).foldl f b) x := by
  rw [List.take_add_one, h]
  simp
def init1 (us : Uses) : G → Uses
  | .spare n _ => setA us n emptyS
  | _ => us
def initU (gs : List G) : Uses := gs.foldl init1 []
theorem init1_le (us : Uses) (g : G) : (init1 us g).length ≤ us.length + 1 := by
  cases g with
  | spare n ps => exact setA_le ..
  | _ => exact Nat.le_succ _
theorem fold_le {α β : Type} {f : List β → α → List β} (h : ∀ b x, (f b x).length ≤ b.length + 1) : ∀ (l : List α) (b : List β), (l.foldl f b).length ≤ b.length + l.length
  | [], b => Nat.le_refl _
  | x :: r, b => by
    have := fold_le h r (f b x)
    have h2 := h b x
    show (r.foldl f (f b x)).length ≤ _
    rw [List.length_cons]
    omega
theorem initU_le (gs : List G) : (initU gs).length ≤ gs.length := by
  have := fold_le init1_le gs []
  simpa [initU] using this
theorem init1_mono {us : Uses} {g : G} {m : Str} (h : (us.any fun p => decide (p.1 = m)) = true) : ((init1 us g).any fun p => decide (p.1 = m)) = true := by
  cases g with
  | spare n ps =>
    show ((setA us n emptyS).any fun p => decide (p.1 = m)) = true
    rw [setA_any, h]
    rfl
  | _ => exact h
theorem init_fold {m : Str} : ∀ (gs : List G) (us : Uses), ((us.any fun p => decide (p.1 = m)) = true ∨ ∃ ps, G.spare m ps ∈ gs) → ((gs.foldl init1 us).any fun p => decide (p.1 = m)) = true
  | [], us, h => by
    rcases h with h | ⟨ps, h⟩
    · exact h
    · cases h
  | g :: gs, us, h => by
    refine init_fold gs (init1 us g) ?_
    rcases h with h | ⟨ps, h⟩
    · exact .inl (init1_mono h)
    · rcases List.mem_cons.mp h with e | h
      · refine .inl ?_
        rw [← e]
        show ((setA us m emptyS).any fun p => decide (p.1 = m)) = true
        rw [setA_any, decide_eq_true rfl, Bool.or_true]
      · exact .inr ⟨ps, h⟩
theorem initU_spare (gs : List G) : SpareIn (initU gs) gs := fun n ps h => init_fold gs [] (.inr ⟨ps, h⟩)
def firstU (gs : List G) : Uses := takeU [] (initU gs) gs
section
variable {P : Program} {w : World} {K : PySem.W.Frag} {mg : Str → Option Value} {base : Heap}
def spFirst (K : PySem.W.Frag) : Sp := fun vs H Q _ => ∃ a xs gs, vs = [.ref a] ∧ Sq K H a xs ∧ Each (GateAt K H) xs gs ∧ gs.length ≤ 1000 ∧ (∀ n ps, G.spare n ps ∈ gs → ps.length ≤ 1000) ∧ ∀ H' p, Same H H' → H p = none → H' p = some (.dK (dS V.str (firstU gs))) → Q (.ref p) H'
theorem ok_first_uses {f : Addr} {fd : FuncData} (F : Fun K "first_uses" "first_uses" s_first_uses f fd) (T : Nm mg) (C_take : Cal P w K mg base 1 "take" ["gates", "uses", "failed"] (spTakeU K)) : FnOk P w K mg base CX0 2 f fd ["gates"] (spFirst K) := by
  refine F.ok sc_first_uses (fun vs H Q E h => ?_) (fun cdv A outer s H vs Q E hr h => ?_)
  · obtain ⟨a, xs, gs, rfl, _⟩ := h
    rfl
  · obtain ⟨a, xs, gs, rfl, h, he, hgl, hpl, q⟩ := h
    have hu := hu_of hr
    refine ⟨_, (pss_one (ps_ret (pe_cal C_take (by decide) hr (by rfl) (pa_cons (pv 0) (pa_cons (pe_dc (own := [("gate", 1)]) (g := gName 1) (by rfl) sc_first_uses.nd (pi_sq (pv 0)) (blkOk_by (own := [("gate", 1)]) (N := ["gates", "gate"]) (sc := defScope s_first_uses) (by decide +kernel)) (fun _ _ _ _ _ => pg_name (i := 1) sc_first_uses.nd rfl (.inl rfl)) (fun _ _ _ _ _ => pts_one (pt_cmpR op_eq (pe_ix (ix_sqK (K := K) rfl) (pv 1) pe_int (fun _ _ => rfl)) pe_str (nomark _))) (fun _ _ _ _ _ => (pe_ix (ix_sqK (K := K) rfl) (pv 1) pe_int (fun _ _ => rfl))) (fun _ _ _ _ _ => pe_str)) (pa_cons (pe_tup pa_nil) pa_nil)))))), ?_⟩
    obtain ⟨d, hd⟩ := h.b
    have el := he.1
    refine ⟨.ref a, rfl, .ref a, rfl, a, d, rfl, ⟨_, hd⟩, fun D nD => ?_⟩
    refine dc_it (walk_sq (xs := xs)) (DP H D fun i => dS V.str ((gs.take i).foldl init1 [])) (DP.zero nD rfl) (fun _ _ _ p => Same.sqb p.sm hd) (fun i x H2 H3 hi p y => ?_) (fun H2 p => ?_)
    · obtain ⟨rfl, hx⟩ := y
      obtain ⟨g, hg, r⟩ := he.2 i x hx
      have r := GateAt.kt (Same.kt p.sm) r
      obtain ⟨t, rest, rfl, ht, _⟩ := r.cut
      have suc := fold_succ init1 ([] : Uses) hg
      have hi2 : i < gs.length := by omega
      refine ⟨rfl, .ref t, rfl, t, _, 1, .str g.word, rfl, rfl, .inr ht, at1, rfl, _, rfl, ?_⟩
      have sk : (g.word ≠ "spare") → init1 ((gs.take i).foldl init1 []) g = (gs.take i).foldl init1 [] → DP H D (fun i => dS V.str ((gs.take i).foldl init1 [])) (i + 1) H3 := fun _ e => p.skip (Same.refl _) (by rw [suc, e])
      cases g with
      | spare n ps =>
        refine iteD rfl ⟨.ref t, rfl, t, _, 0, .str n, rfl, rfl, .inr ht, at0, ?_⟩
        refine p.put nD (k := .inr n) rfl (Same.refl _) ?_ ?_
        · rw [suc, show (V.str ("" : Str)) = V.str emptyS from rfl, putK_dS V.str]
          rfl
        · rw [dS_len, sizeLine_eq]
          have := fold_le init1_le (gs.take i) []
          simp at this
          omega
      | all _ _ => exact iteN (litNe ne_all_spare) (sk ne_all_spare rfl)
      | any _ _ => exact iteN (litNe ne_any_spare) (sk ne_any_spare rfl)
      | least _ _ _ => exact iteN (litNe ne_least_spare) (sk ne_least_spare rfl)
      | before _ _ _ => exact iteN (litNe ne_before_spare) (sk ne_before_spare rfl)
    · have hD : H2 D = some (.dK (dS V.str (initU gs))) := by
        rw [p.at_, el, List.take_length]
        rfl
      refine ⟨Nat.zero_le _, fun e ne => ?_⟩
      have s3 : Same H2 (upd H2 e (.tup [])) := Same.new ne
      have s4 := p.sm.trans s3
      refine ⟨a, D, e, xs, gs, initU gs, [], rfl, Same.sq s4 h, he.imp fun _ _ r => GateAt.kt (Same.kt s4) r, s3 _ _ hD, .inr (.of upd_same), initU_spare gs, by have := initU_le gs; omega, hpl, fun H5 pp s5 np hp => ?_⟩
      exact q H5 pp (s4.trans s5) (s4.free np) hp
end
end Kf

set_option Elab.async false
set_option linter.all false
set_option maxRecDepth 100000
set_option maxHeartbeats 2000000
namespace Kf
open PySem PySem.Spec PyProof.Rows L2
abbrev Tr := List (Str × Bool)
def lookT (tr : Tr) (n : Str) : Bool := (getA tr n).getD false
def gTruth (tr : Tr) (us : Uses) : G → Bool
  | .all _ ins => ins.all (lookT tr)
  | .any _ ins => ins.any (lookT tr)
  | .least _ m ins => decide (m ≤ ((ins.filter (lookT tr)).length : Int))
  | .before _ _ _ => false
  | .spare n _ => decide ((getA us n).getD emptyS = emptyS)
def KeyIn {α : Type} (l : List (Str × α)) (n : Str) : Prop := (l.any fun p => decide (p.1 = n)) = true
/-- what it reads stands in the tables -/
def Reads1 (tr : Tr) (us : Uses) : G → Prop
  | .all _ ins => (∀ x ∈ ins, KeyIn tr x) ∧ ins.length ≤ 1000
  | .any _ ins => (∀ x ∈ ins, KeyIn tr x) ∧ ins.length ≤ 1000
  | .least _ m ins => (∀ x ∈ ins, KeyIn tr x) ∧ ins.length ≤ 1000
  | .before _ x y => KeyIn tr x ∧ KeyIn tr y
  | .spare n _ => KeyIn us n
theorem KeyIn.get {α : Type} {f : α → V} {l : List (Str × α)} {n : Str} {H : Hp} {b : Addr} (k : KeyIn l n) (h : H b = some (.dK (dS f l))) : ∃ z, getA l n = some z ∧ DGet H b (.str n) (some (f z)) := by
  obtain ⟨z, hz⟩ := getA_of_any k
  refine ⟨z, hz, ?_⟩
  have q := DGet.k (k := .inr n) h
  rw [valV_dS, hz] at q
  exact q
theorem KeyIn.look {tr : Tr} {n : Str} {H : Hp} {b : Addr} (k : KeyIn tr n) (h : H b = some (.dK (dS V.bl tr))) : DGet H b (.str n) (some (.bl (lookT tr n))) := by
  obtain ⟨z, hz, q⟩ := k.get h
  have e : lookT tr n = z := by unfold lookT; rw [hz]; rfl
  rw [e]
  exact q
theorem all_map {tr : Tr} (l : List Str) : (l.map (lookT tr)).all id = l.all (lookT tr) := by rw [List.all_map]; rfl
theorem any_map {tr : Tr} (l : List Str) : (l.map (lookT tr)).any id = l.any (lookT tr) := by rw [List.any_map]; rfl
section
variable {P : Program} {w : World} {K : PySem.W.Frag} {mg : Str → Option Value} {base : Heap}
def spGateTruth (K : PySem.W.Frag) : Sp := fun vs H Q _ => ∃ v b c g tr us, vs = [v, .ref b, .ref c] ∧ GateAt K H v g ∧ H b = some (.dK (dS V.bl tr)) ∧ H c = some (.dK (dS V.str us)) ∧ Reads1 tr us g ∧ (∀ n x y, g ≠ G.before n x y) ∧ ∀ H', Same H H' → Q (.bl (gTruth tr us g)) H'
theorem ok_gate_truth {f : Addr} {fd : FuncData} {k : Nat} (F : Fun K "gate_truth" "gate_truth" s_gate_truth f fd) (T : Nm mg) : FnOk P w K mg base CX0 (k + 1) f fd ["gate", "truths", "uses"] (spGateTruth K) := by
  refine F.ok sc_gate_truth (fun vs H Q E h => ?_) (fun cdv A outer s H vs Q E hr h => ?_)
  · obtain ⟨a, b, c, g, tr, us, rfl, _⟩ := h
    rfl
  · obtain ⟨v, b, c, g, tr, us, rfl, h, hb, hc, hk, nb, q⟩ := h
    have hu := hu_of hr
    obtain ⟨t, rest, rfl, ht, _⟩ := h.cut
    refine ⟨_, (pss_cons (ps_set (i := 3) sc_gate_truth.nd rfl (.inl rfl) (pe_ix (ix_sqK (K := K) rfl) (pv 0) pe_int (fun _ _ => rfl)))
 (pss_cons (ps_if (pt_cmpR op_eq (pv 3) pe_str (nomark _))
 (pss_one (ps_ret (pe_callB (cr_all rfl) (by rfl) T.n_all (by decide +kernel) (pa_cons (pe_lc (own := [("name", 4)]) (g := gName 4) (by rfl) sc_gate_truth.nd (pi_sq (pe_ix (ix_sqK (K := K) rfl) (pv 0) pe_int (fun _ _ => rfl))) (blkOk_by (own := [("name", 4)]) (N := ["gate", "truths", "uses", "word", "name"]) (sc := defScope s_gate_truth) (by decide +kernel)) (fun _ _ _ _ _ => pg_name (i := 4) sc_gate_truth.nd rfl (.inl rfl)) (fun _ _ _ _ _ => pts_nil) (fun _ _ _ _ _ => (pe_dget hu (pv 1) (pv 4) (fun _ _ => rfl)))) pa_nil))))
 pss_nil)
 (pss_cons (ps_if (pt_cmpR op_eq (pv 3) pe_str (nomark _))
 (pss_one (ps_ret (pe_callB (cr_any rfl) (by rfl) T.n_any (by decide +kernel) (pa_cons (pe_lc (own := [("name", 4)]) (g := gName 4) (by rfl) sc_gate_truth.nd (pi_sq (pe_ix (ix_sqK (K := K) rfl) (pv 0) pe_int (fun _ _ => rfl))) (blkOk_by (own := [("name", 4)]) (N := ["gate", "truths", "uses", "word", "name"]) (sc := defScope s_gate_truth) (by decide +kernel)) (fun _ _ _ _ _ => pg_name (i := 4) sc_gate_truth.nd rfl (.inl rfl)) (fun _ _ _ _ _ => pts_nil) (fun _ _ _ _ _ => (pe_dget hu (pv 1) (pv 4) (fun _ _ => rfl)))) pa_nil))))
 pss_nil)
 (pss_cons (ps_if (pt_cmpR op_eq (pv 3) pe_str (nomark _))
 (pss_one (ps_ret (pe_cmpR op_ge (pe_callB (call_lenK (K := K) rfl) (by rfl) T.n_len (by decide +kernel) (pa_cons (pe_lc (own := [("name", 4)]) (g := gName 4) (by rfl) sc_gate_truth.nd (pi_sq (pe_ix (ix_sqK (K := K) rfl) (pv 0) pe_int (fun _ _ => rfl))) (blkOk_by (own := [("name", 4)]) (N := ["gate", "truths", "uses", "word", "name"]) (sc := defScope s_gate_truth) (by decide +kernel)) (fun _ _ _ _ _ => pg_name (i := 4) sc_gate_truth.nd rfl (.inl rfl)) (fun _ _ _ _ _ => pts_one (pt_val (pe_dget hu (pv 1) (pv 4) (fun _ _ => rfl)))) (fun _ _ _ _ _ => (pv 4))) pa_nil)) (pe_ix (ix_sqK (K := K) rfl) (pv 0) pe_int (fun _ _ => rfl)) (nomark _))))
 pss_nil)
 (pss_one (ps_ret (pe_cmpR op_eq (pe_dget hu (pv 2) (pe_ix (ix_sqK (K := K) rfl) (pv 0) pe_int (fun _ _ => rfl)) (fun _ _ => rfl)) pe_str (nomark _)))))))), ?_⟩
    refine ⟨.ref t, rfl, t, _, 1, .str g.word, rfl, rfl, .inr ht, at1, ?_⟩
    cases g with
    | before n x y => exact absurd rfl (nb n x y)
    | all n ins =>
      obtain ⟨t', u, e, ht', hu'⟩ := h
      cases e
      refine ⟨_, rfl, rfl, _, rfl, iteD rfl ?_⟩
      refine ⟨.ref t, rfl, t, _, 2, .ref u, rfl, rfl, .inr ht', rfl, u, false, rfl, ⟨_, hu'⟩, fun D nD => ?_⟩
      refine lc_it (walk_sq (xs := sV ins)) (LP H D fun j => ((ins.take j).map (lookT tr)).map V.bl) (LP.zero nD rfl) (fun _ _ _ p => Same.sqb (b := false) p.sm hu') (fun j x H2 H3 hj p y => ?_) (fun H2 p => ?_)
      · obtain ⟨rfl, hx⟩ := y
        have hj2 : j < ins.length := by simpa [sV] using hj
        have hx2 : (sV ins)[j]? = some (.str ins[j]) := by simp [sV, hj2]
        obtain rfl : x = .str ins[j] := Option.some.inj (hx.symm.trans hx2)
        have eT : ins.take (j + 1) = ins.take j ++ [ins[j]] := by rw [List.take_add_one, List.getElem?_eq_getElem hj2]; rfl
        refine ⟨rfl, .ref b, rfl, .str ins[j], rfl, b, _, rfl, (hk.1 _ (List.getElem_mem hj2)).look (p.sm _ _ hb), ?_⟩
        have h1 := hk.2
        exact p.put nD (Same.refl _) (by show ((ins.take (j + 1)).map (lookT tr)).map V.bl = _; rw [eT, List.map_append, List.map_append]; rfl) (by rw [sizeLine_eq]; simp; omega)
      · refine ⟨D, ins.map (lookT tr), rfl, .of (by rw [p.at_]; simp [sV, List.take_of_length_le]), ?_⟩
        rw [all_map]
        exact q _ p.sm
    | any n ins =>
      obtain ⟨t', u, e, ht', hu'⟩ := h
      cases e
      refine ⟨_, rfl, rfl, _, rfl, iteN (litNe ne_any_all) ?_⟩
      refine ⟨_, rfl, rfl, _, rfl, iteD rfl ?_⟩
      refine ⟨.ref t, rfl, t, _, 2, .ref u, rfl, rfl, .inr ht', rfl, u, false, rfl, ⟨_, hu'⟩, fun D nD => ?_⟩
      refine lc_it (walk_sq (xs := sV ins)) (LP H D fun j => ((ins.take j).map (lookT tr)).map V.bl) (LP.zero nD rfl) (fun _ _ _ p => Same.sqb (b := false) p.sm hu') (fun j x H2 H3 hj p y => ?_) (fun H2 p => ?_)
      · obtain ⟨rfl, hx⟩ := y
        have hj2 : j < ins.length := by simpa [sV] using hj
        have hx2 : (sV ins)[j]? = some (.str ins[j]) := by simp [sV, hj2]
        obtain rfl : x = .str ins[j] := Option.some.inj (hx.symm.trans hx2)
        have eT : ins.take (j + 1) = ins.take j ++ [ins[j]] := by rw [List.take_add_one, List.getElem?_eq_getElem hj2]; rfl
        refine ⟨rfl, .ref b, rfl, .str ins[j], rfl, b, _, rfl, (hk.1 _ (List.getElem_mem hj2)).look (p.sm _ _ hb), ?_⟩
        have h1 := hk.2
        exact p.put nD (Same.refl _) (by show ((ins.take (j + 1)).map (lookT tr)).map V.bl = _; rw [eT, List.map_append, List.map_append]; rfl) (by rw [sizeLine_eq]; simp; omega)
      · refine ⟨D, ins.map (lookT tr), rfl, .of (by rw [p.at_]; simp [sV, List.take_of_length_le]), ?_⟩
        rw [any_map]
        exact q _ p.sm
    | least n m ins =>
      obtain ⟨t', u, e, ht', hu'⟩ := h
      cases e
      refine ⟨_, rfl, rfl, _, rfl, iteN (litNe ne_least_all) ?_⟩
      refine ⟨_, rfl, rfl, _, rfl, iteN (litNe ne_least_any) ?_⟩
      refine ⟨_, rfl, rfl, _, rfl, iteD rfl ?_⟩
      refine ⟨.ref t, rfl, t, _, 3, .ref u, rfl, rfl, .inr ht', rfl, u, false, rfl, ⟨_, hu'⟩, fun D nD => ?_⟩
      refine lc_it (walk_sq (xs := sV ins)) (LP H D fun j => sV ((ins.take j).filter (lookT tr))) (LP.zero nD rfl) (fun _ _ _ p => Same.sqb (b := false) p.sm hu') (fun j x H2 H3 hj p y => ?_) (fun H2 p => ?_)
      · obtain ⟨rfl, hx⟩ := y
        have hj2 : j < ins.length := by simpa [sV] using hj
        have hx2 : (sV ins)[j]? = some (.str ins[j]) := by simp [sV, hj2]
        obtain rfl : x = .str ins[j] := Option.some.inj (hx.symm.trans hx2)
        have eT : ins.take (j + 1) = ins.take j ++ [ins[j]] := by rw [List.take_add_one, List.getElem?_eq_getElem hj2]; rfl
        have h1 := hk.2
        refine ⟨rfl, .ref b, rfl, .str ins[j], rfl, b, _, rfl, (hk.1 _ (List.getElem_mem hj2)).look (p.sm _ _ hb), lookT tr ins[j], rfl, ite2 (fun e => ?_) (fun e => ?_)⟩
        · refine ⟨.str ins[j], rfl, ?_⟩
          refine p.put nD (Same.refl _) (by rw [eT, List.filter_append, filter_one, if_pos e]; simp [sV]) ?_
          have : ((ins.take j).filter (lookT tr)).length ≤ (ins.take j).length := List.length_filter_le ..
          rw [sizeLine_eq]
          simp [sV] at this ⊢
          omega
        · exact p.skip (Same.refl _) (by rw [eT, List.filter_append, filter_one, if_neg e]; simp)
      · have eD : H2 D = some (.lst (sV (ins.filter (lookT tr)))) := by rw [p.at_]; simp [sV, List.take_of_length_le]
        refine ⟨D, _, rfl, .inl (.of eD), .ref t, rfl, t, _, 2, .int m, rfl, rfl, .inr (Same.sqt p.sm ht'), rfl, _, m, rfl, rfl, ?_⟩
        have e : decide (m ≤ ((sV (ins.filter (lookT tr))).length : Int)) = gTruth tr us (.least n m ins) := by simp [sV, gTruth]
        show Q (V.bl (decide (m ≤ ((sV (ins.filter (lookT tr))).length : Int)))) H2
        rw [e]
        exact q _ p.sm
    | spare n ps =>
      obtain ⟨t', u, e, ht', hu'⟩ := h
      cases e
      refine ⟨_, rfl, rfl, _, rfl, iteN (litNe ne_spare_all) ?_⟩
      refine ⟨_, rfl, rfl, _, rfl, iteN (litNe ne_spare_any) ?_⟩
      refine ⟨_, rfl, rfl, _, rfl, iteN (litNe ne_spare_least) ?_⟩
      obtain ⟨z, hz, hg⟩ := KeyIn.get hk hc
      refine ⟨.ref c, rfl, .ref t, rfl, t, _, 0, .str n, rfl, rfl, .inr ht', rfl, c, _, rfl, hg, rfl, ?_⟩
      show Q (V.bl (decide (V.str z = V.str emptyS))) H
      rw [decStr]
      have e : decide (z = emptyS) = gTruth tr us (.spare n ps) := by show _ = decide ((getA us n).getD emptyS = emptyS); rw [hz]; rfl
      rw [e]
      exact q _ (Same.refl _)
end
end Kf

set_option Elab.async false
set_option linter.all false
set_option maxRecDepth 100000
set_option maxHeartbeats 2000000
namespace Kf
open PySem PySem.Spec PyProof.Rows L2 LamX NdefX
/-! ## lambdas with parameters, handed to a def of the module -/
abbrev lamFd (F : NF) (b : Expr) (pm ctv : Value) : FuncData := PySem.W.kla_fn F.name F.qual F.params b F.scope F.cl pm (.ref F.c) ctv
/-- the object at f is the lambda F with the body b -/
def LmO (f : Addr) (F : NF) (b : Expr) : HO := .ext fun h => ∃ (od : Option Addr) (sl : Array (Option Value)) (pm ctv : Value), h.get? f = some (⟨.type "function", od, .func (lamFd F b pm ctv), sl⟩ : Obj)
theorem lmO_at {P : Program} {w : World} {H : Hp} {h : Heap} {f : Addr} {F : NF} {b : Expr} (hok : HOk P w H h) (e : H f = some (LmO f F b)) : ∃ (od : Option Addr) (sl : Array (Option Value)) (pm ctv : Value), h.get? f = some (⟨.type "function", od, .func (lamFd F b pm ctv), sl⟩ : Obj) := by
  obtain ⟨z, _, _⟩ := hok f _ e
  exact z
/-- all but the tables stay, nothing goes, the tables of T stay tables -/
structure Sm (T : List NTab) (H H' : Hp) : Prop where
  kp : ExtN H H'
  nn : ∀ b, H' b = none → H b = none
  tb : TabsN T H → TabsN T H'
theorem Sm.refl (T : List NTab) (H : Hp) : Sm T H H := ⟨ExtN.refl H, fun _ h => h, id⟩
theorem Sm.trans {T : List NTab} {H H1 H2 : Hp} (a : Sm T H H1) (b : Sm T H1 H2) : Sm T H H2 := ⟨a.kp.trans b.kp, fun x h => a.nn x (b.nn x h), fun t => b.tb (a.tb t)⟩
theorem Same.sm {T : List NTab} {H H' : Hp} (s : Same H H') : Sm T H H' := ⟨ExtN.of s, fun _ h => s.free h, fun t => t.ext s⟩
section
variable {X : Cx} {pins : List (Addr × Obj)} {σ : L2.St} {H : Hp} {s : Shared}
theorem inv_lm {F : NF} {b : Expr} {o : Obj} {t' : Nat} {pm ctv : Value} (I : Inv X pins σ H s) (ho : o = { cls := .type "function", data := .func (lamFd F b pm ctv) }) :
    Inv X pins σ (upd H s.heap.objs.size (LmO s.heap.objs.size F b)) { s with heap := s.heap.push o, toks := t' } := by
  subst ho
  refine I.laid (a := s.heap.objs.size) (fun b u e => Heap.get?_push_of_some _ e) (Nat.le_refl _) ?_
  have e : (s.heap.push ({ cls := .type "function", data := .func (lamFd F b pm ctv) } : Obj)).get? s.heap.objs.size = some ({ cls := .type "function", data := .func (lamFd F b pm ctv) } : Obj) := Heap.get?_push_size _ rfl
  exact ⟨⟨_, _, pm, ctv, e⟩, ⟨_, e⟩, fun h1 h2 ⟨od, sl, p, t, z⟩ st => ⟨od, sl, p, t, st _ z⟩⟩
/-- the lambda of the text: its words -/
abbrev mkLam (X : Cx) (params : Arguments) (scope : Scope) (c' : Addr) : NF := ⟨"<lambda>", X.env.qual ++ "<lambda>", params, [], scope, cloFrom X.env.cells scope.names [], c'⟩
theorem lam_make3 {T : List NTab} {nm : Nat → Nat → Str} {c P : Addr} {params : Arguments} {body : Expr} {scope : Scope} {pos : Pos} {E : Value → Shared → Prop} {Q : Value → Shared → Prop} (I : Inv X pins σ H s) (TB : TabB X.base X.mg c P) (hcode : X.env.code = .ref c)
    (hm : (P, nm) ∈ T) (hn : nm pos.line pos.col = X.env.qual ++ "<lambda>") (hu : ∀ p ∈ T, p.1 = P → p.2 = nm) (hT : TabsN T H) (hdef : defaultsOf params X.env = ([], [])) (hfree : ∀ y ∈ scope.names, y.2 = .free → ∃ c, X.env.cells.lookup y.1 = some c)
    (h : ∀ (f c' : Addr) (H1 : Hp) (s' : Shared), Inv X pins σ H1 s' → Sm T H H1 → TabsN T H1 → H f = none → H1 f = some (LmO f (mkLam X params scope c') body) → H1 c' = some (CodeO c' (X.env.qual ++ "<lambda>")) → Q (.ref f) s') :
    wpAny (model X.prog X.w) X.A (eval (.Lambda params body scope pos) X.env) Q E s := by
  obtain ⟨ps, hP, ht, ha⟩ := (show TabN H P nm from hT _ hm)
  refine PySem.W.kla_eval hdef ?_
  have bP : s.heap.BuiltinsAt X.mg P := TB.bm.keeps I.bk
  have hP' : s.heap.get? P = some { cls := .none, data := .fields ps } := I.hok P _ hP
  cases hc : codeAmong pos ps.toList with
  | none =>
    refine PySem.W.kla_makeFunction (mg := X.mg) (c := c) (P := P) (ps := ps) (closure_ok hfree) I.ok.glob (I.mod.glob.keeps I.bk) hcode (TB.code.keeps I.bk) hP' ht hc TB.gP bP fun c' ctv h' tk hx hge hlt hrec htb => ?_
    obtain ⟨c2, oc, vs, t, e2, hoc, hd, hv⟩ := hrec
    cases e2
    have nC : H c' = none := I.hok.fresh hge
    have I1 := inv_table (t' := tk) (more := #[rawInt pos.line, rawInt pos.col, .ref c']) (h' := h') I hP (fun b o hb e => hx b o hb e) htb hge ⟨oc, vs, t, hoc, hd, hv⟩
    have hE : ExtN H (upd (upd H P (.tbl (ps ++ #[rawInt pos.line, rawInt pos.col, .ref c']))) c' (CodeO c' (X.env.qual ++ "<lambda>"))) := fun b o e n => by
      rw [upd_ne (ne_of_none e nC), upd_ne (fun z => n ps (Option.some.inj (e.symm.trans (by rw [z]; exact hP))))]
      exact e
    have eL : (ps ++ #[rawInt pos.line, rawInt pos.col, .ref c']).toList = ps.toList ++ [rawInt pos.line, rawInt pos.col, .ref c'] := by simp
    have T1 : TabsN T (upd (upd H P (.tbl (ps ++ #[rawInt pos.line, rawInt pos.col, .ref c']))) c' (CodeO c' (X.env.qual ++ "<lambda>"))) := fun p hp => by
      by_cases hb : p.1 = P
      · rw [hu p hp hb, hb]
        refine ⟨_, by rw [upd_ne (ne_of_none hP nC), upd_same], by rw [eL]; exact PySem.TriplesOk_snoc _ _ _ _ ht, fun p' cv hcv => ?_⟩
        rw [eL] at hcv
        rcases among_app2 _ ht hcv with z | ⟨z, z1, z2⟩
        · obtain ⟨c0, e1, e2⟩ := ha p' cv z
          exact ⟨c0, e1, hE _ _ e2 codeO_ne⟩
        · refine ⟨c', z, ?_⟩
          rw [← z1, ← z2, hn]
          exact upd_same
      · obtain ⟨ps', a1, a2, a3⟩ := hT p hp
        refine ⟨ps', by rw [upd_ne (ne_of_none a1 nC), upd_ne hb]; exact a1, a2, fun p' cv hcv => ?_⟩
        obtain ⟨c0, e1, e2⟩ := a3 p' cv hcv
        exact ⟨c0, e1, hE _ _ e2 codeO_ne⟩
    have nF := I1.hok.fresh (Nat.le_refl _)
    have I2 := inv_lm (F := mkLam X params scope c') (b := body) (t' := tk) (pm := (X.mg "__name__").getD .none) (ctv := ctv) I1 rfl
    have T2 := fun u : HO => T1.ext (H' := upd _ h'.objs.size u) fun b o e => (upd_ne (ne_of_none e nF)).trans e
    refine h h'.objs.size c' _ _ I2 ⟨fun b o e n => ?_, fun b e => upd_none (upd_none (upd_none e)), fun _ => T2 _⟩ (T2 _) (I.hok.fresh (Nat.le_trans hge (Nat.le_of_lt hlt))) upd_same ?_
    · have e1 := hE b o e n
      exact (upd_ne (ne_of_none e1 nF)).trans e1
    · exact (upd_ne (Nat.ne_of_lt hlt)).trans upd_same
  | some cv =>
    obtain ⟨c', e, hco⟩ := ha pos cv hc
    subst e
    rw [hn] at hco
    refine PySem.W.kla_makeFunctionHit (mg := X.mg) (c := c) (P := P) (ps := ps) (closure_ok hfree) I.ok.glob (I.mod.glob.keeps I.bk) hcode (TB.code.keeps I.bk) hP' ht hc bP fun ctv h' tk hx hsz => ?_
    have I1 : Inv X pins σ H { s with heap := h', toks := tk } := I.kept hx
    have nF : H h'.objs.size = none := I1.hok.fresh (Nat.le_refl _)
    have I2 := inv_lm (F := mkLam X params scope c') (b := body) (t' := tk) (pm := (X.mg "__name__").getD .none) (ctv := ctv) I1 rfl
    have T2 := fun u : HO => hT.ext (H' := upd _ h'.objs.size u) fun b o e => (upd_ne (ne_of_none e nF)).trans e
    refine h h'.objs.size c' _ _ I2 ⟨fun b o e n => ?_, fun b e => upd_none e, fun _ => T2 _⟩ (T2 _) nF upd_same ?_
    · exact (upd_ne (ne_of_none e nF)).trans e
    · exact (upd_ne (ne_of_none hco nF)).trans hco
end
/-- the reading of a lambda -/
def tLamV (T : List NTab) (mk : Addr → NF) (body : Expr) (q : Str) : TE := fun _ H Q => TabsN T H ∧ ∀ (f c' : Addr) (H1 : Hp), Sm T H H1 → TabsN T H1 → H f = none → H1 f = some (LmO f (mk c') body) → H1 c' = some (CodeO c' q) → Q (.ref f) H1
theorem pe_lam {X : Cx} {T : List NTab} {nm : Nat → Nat → Str} {c P : Addr} {params : Arguments} {body : Expr} {scope : Scope} {pos : Pos} (TB : TabB X.base X.mg c P) (hcode : X.env.code = .ref c) (hm : (P, nm) ∈ T) (hn : nm pos.line pos.col = X.env.qual ++ "<lambda>") (hu : ∀ p ∈ T, p.1 = P → p.2 = nm)
    (hfree : ∀ y ∈ scope.names, y.2 = .free → X.env.scope.names.lookup y.1 = some .cell ∨ X.env.scope.names.lookup y.1 = some .free) (hdef : defaultsOf params X.env = ([], [])) : PE X (.Lambda params body scope pos) (tLamV T (mkLam X params scope) body (X.env.qual ++ "<lambda>")) := by
  refine ⟨fun pins s σ H Q I h => ?_⟩
  obtain ⟨hT, h⟩ := h
  have hfr : ∀ y ∈ scope.names, y.2 = .free → ∃ c, X.env.cells.lookup y.1 = some c := fun y hy e => (hfree y hy e).elim (fun z => I.ok.has _ (.inl z)) fun z => I.ok.has _ (.inr z)
  exact lam_make3 I TB hcode hm hn hu hT hdef hfr fun f c' H1 s' I1 sm T1 f0 f1 c1 => ⟨.ref f, H1, I1, rfl, h f c' H1 sm T1 f0 f1 c1⟩
/-! ### what a lambda promises -/
structure LOk (P : Program) (w : World) (K : PySem.W.Frag) (mg : Str → Option Value) (base : Heap) (k : Nat) (f : Addr) (F : NF) (b : Expr) (ps fr : List Str) (sp : List (Option V) → List V → Hp → VK → Prop) : Prop where
  run : ∀ (A : Around) (outer : List Env) (s : Shared) (H : Hp) (us : List Value) (vs : List V) (ws : List (Option V)) (Q : VK) (E : XK), Room k A → Env0 P w K mg base A outer s H → H f = some (LmO f F b) → H F.c = some (CodeO F.c F.qual) →
    CellsAt F.cl fr ws s.heap H → Vals vs us → vs.length = ps.length → sp ws vs H Q → codeAny (model P w) A (.call (.ref f) ⟨us, []⟩) (CR CX0 outer P w H s Q E) s
theorem lok_of {P : Program} {w : World} {K : PySem.W.Frag} {mg : Str → Option Value} {base : Heap} {N ps fr : List Str} {F : NF} {b : Expr} {f : Addr} {k : Nat} {sp : List (Option V) → List V → Hp → VK → Prop} (S : NScope N ps fr F.scope)
    (hb : ∀ (pm ctv : Value) (us : List Value), us.length = ps.length → bindArgs (lamFd F b pm ctv) ⟨us, []⟩ = pure (ps.zip us))
    (hbody : ∀ (A : Around) (outer : List Env) (s : Shared) (H : Hp) (vs : List V) (ws : List (Option V)) (Q : VK) (E : XK), Room k (A.deeper (envF F f s.heap.objs.size)) → ws.length = fr.length → vs.length = ps.length → sp ws vs H Q →
      ∃ t, PE (ncx CX0 P w K mg base N F f A outer s H E) b t ∧ t (startF N vs ws) H Q) : LOk P w K mg base (k + 1) f F b ps fr sp := by
  refine ⟨fun A outer s H us vs ws Q E hr e0 hf hc C r hl hsp => ?_⟩
  have lim : s.heap.NoLimit := e0.mod.nolimit.keeps fun b o e => (e0.bs b o e).1
  obtain ⟨od, sl, pm, ctv, ho⟩ := lmO_at e0.hok hf
  refine PySem.W.kla_callFunE hr.depth ho rfl S.co S.gen rfl (codeO_at e0.hok hc) ?_
  rw [hb pm ctv us (by rw [← r.length]; exact hl)]
  refine wpAny_pure (wpAny_newFunctionEnv S.nocell (fun ⟨n, _⟩ hy => S.par n (List.of_mem_zip hy).1) (fun h₁ hns hsb => ⟨lim.fresh _ hsb, ?_⟩) S.kind)
  show codeAny _ _ (.expr b (envF F f s.heap.objs.size)) _ _
  have kp : ∀ b o, s.heap.get? b = some o → h₁.get? b = some o := fun b o e => hsb.extBut b o (Nat.ne_of_lt (Heap.lt_size e)) (Heap.get?_push_of_some _ e)
  obtain ⟨t, ht, hq⟩ := hbody A outer s H vs ws Q E (hr.deeper _) C.len hl hsp
  have I : Inv (ncx CX0 P w K mg base N F f A outer s H E) [] (startF N vs ws) H { s with heap := h₁, toks := s.toks + (ps.zip us).length } := inv_startN S hr.hd e0 hl r C hns kp
  refine PySem.W.kla_codeExpr (wpAny_mono (ht.run [] _ (startF N vs ws) H _ I hq) (fun v s' hs => ?_) fun e s' hs => hs)
  obtain ⟨w', H', J, rv, q⟩ := hs
  exact ⟨w', H', J.os, J.bare, J.base, J.hok, rv, q⟩
/-- captured cells hold what they held -/
theorem cells_un {fs : List Addr} {H H' : Hp} {h h' : Heap} {cl : List (Str × Addr)} {fr : List Str} {ws : List (Option V)} (un : Un fs [] H H' h h') (C : CellsAt cl fr ws h H) : CellsAt cl fr ws h' H' := by
  have kp : ∀ c v, H c = none → h.IsCell c v → h'.IsCell c v := fun c v n ⟨o, ho, hd⟩ => by
    obtain ⟨sl, q⟩ := un.any ho n (by simp)
    exact ⟨_, q, hd⟩
  refine ⟨C.len, fun y c e => ?_, C.inj, fun i y e => ?_⟩
  · obtain ⟨n, v, z⟩ := C.all y c e
    refine ⟨?_, v, kp c v n z⟩
    obtain ⟨o, ho, _⟩ := z
    exact un.free c o ho n (by simp)
  · obtain ⟨c, hc, hv⟩ := C.has i y e
    refine ⟨c, hc, fun v ev => ?_⟩
    obtain ⟨u, r, z⟩ := hv v ev
    exact ⟨u, r, kp c _ (C.all y c hc).1 z⟩
/-- f may be called from now on: from each state that the state (H0, s0) has led to, while J holds -/
structure LamAt (P : Program) (w : World) (K : PySem.W.Frag) (mg : Str → Option Value) (base : Heap) (k : Nat) (outer : List Env) (s0 : Shared) (H0 : Hp) (f : Addr) (n : Nat) (J : Hp → Prop) (sp : List V → Hp → VK → Prop) : Prop where
  fn : ∀ H h, HOk P w H h → J H → PySem.W.FnAt f h
  sm : ∀ H H', Same H H' → J H → J H'
  run : ∀ (A : Around) (outer' : List Env) (s : Shared) (H : Hp) (us : List Value) (vs : List V) (Q : VK) (E : XK), Room k A → Env0 P w K mg base A outer' s H → Un (frs outer) [] H0 H s0.heap s.heap → J H → Vals vs us → vs.length = n → sp vs H Q → codeAny (model P w) A (.call (.ref f) ⟨us, []⟩) (CR CX0 outer' P w H s Q E) s
theorem lamAt_of {P : Program} {w : World} {K : PySem.W.Frag} {mg : Str → Option Value} {base : Heap} {ps fr : List Str} {F : NF} {b : Expr} {f : Addr} {k : Nat} {sp : List (Option V) → List V → Hp → VK → Prop} {outer : List Env} {s0 : Shared} {H0 : Hp} {ws : List (Option V)} {J : Hp → Prop} {sp' : List V → Hp → VK → Prop}
    (L : LOk P w K mg base k f F b ps fr sp) (C : CellsAt F.cl fr ws s0.heap H0) (hJ : ∀ H, J H → H f = some (LmO f F b) ∧ H F.c = some (CodeO F.c F.qual)) (hs : ∀ H H', Same H H' → J H → J H') (hsp : ∀ vs H Q, J H → sp' vs H Q → sp ws vs H Q) :
    LamAt P w K mg base k outer s0 H0 f ps.length J sp' :=
  ⟨fun H h hok j => by
    obtain ⟨od, sl, pm, ctv, ho⟩ := lmO_at hok (hJ H j).1
    exact ⟨_, od, _, sl, ho⟩, hs, fun A outer' s H us vs Q E hr e0 un j r hl h => L.run A outer' s H us vs ws Q E hr e0 (hJ H j).1 (hJ H j).2 (cells_un un C) r hl (hsp vs H Q j h)⟩
/-! ### a local name that holds such a function is called -/
def tCallJ (i : Nat) (f : Addr) (n : Nat) (J : Hp → Prop) (sp : List V → Hp → VK → Prop) (t : TA) : TE := fun σ H Q => σ[i]? = some (some (.ref f)) ∧ J H ∧ t σ H fun vs H1 => J H1 ∧ vs.length = n ∧ sp vs H1 Q
section
variable {X : Cx} {k j n i : Nat} {f : Addr} {J : Hp → Prop} {sp : List V → Hp → VK → Prop} {x : Str} {p pos : Pos} {e : Expr} {es : List Expr} {t : TA}
theorem pe_callJ (L : LamAt X.prog X.w X.K X.mg X.base k X.outer X.s_0 X.H_0 f n J sp) (hfs : X.fs = frs X.outer) (hex : X.ex = []) (hr : Room j X.A) (hk : k ≤ j) (hN : X.N[i]? = some x) (hv : Vis X.env.scope x) (ha : PA X (e :: es) t) (hE : ∀ u s', CX0 X.stack X.H_0 X.s_0 E0 u s' → X.xe u s' := fun _ _ z => z.elim)
    (hd : (x == ("__debug__" : Str)) = false := by decide) (hcd : (x == ("__classdict__" : Str)) = false := by decide)
    (he : starEach (e :: es) X.env = (false, eval e X.env) :: starEach es X.env := by rfl) (hpl : (backTo pos (starEach es X.env)).any (·.1) = false := by rfl) : PE X (.Call (.Name x p) (e :: es) [] pos) (tCallJ i f n J sp t) := by
  refine ⟨fun pins s σ H Q I h => ?_⟩
  obtain ⟨hs, hj, ht⟩ := h
  refine wpAny_Call_Name_kw (thn ((pe_var (pos := p) hN hv hd hcd).run pins s σ H (fun v H1 => v = .ref f ∧ H1 = H) I ⟨.ref f, hs, rfl, rfl⟩) fun u s1 ⟨v, H1, I1, r1, q1⟩ => ?_)
  obtain ⟨ev, eH⟩ := q1
  subst ev
  rw [eH] at I1
  obtain rfl : u = Value.ref f := r1
  refine PySem.W.callWith_F (first := []) (L.fn _ _ I1.hok hj) (thn (ha.run pos pins s1 σ H _ I1 ht) fun us s2 ⟨vs, H2, I2, r, j2, hl, q⟩ => ⟨L.fn _ _ I2.hok j2, ?_⟩) he hpl
  show wpAny _ _ (call (.ref f) us) _ _ _
  have un : Un (frs X.outer) [] X.H_0 H2 X.s_0.heap s2.heap := by
    have b := I2.base
    rw [hfs, hex] at b
    exact b
  refine wpAny_call (codeAny_mono (L.run X.A X.stack s2 H2 us vs Q E0 (hr.mono hk) I2.env0 un j2 r hl q) fun r s' hq => ?_)
  cases r with
  | error e => exact (show False from hq).elim
  | ok fl =>
    cases fl with
    | ret u => exact I2.after hq
    | next => exact False.elim hq
    | brk => exact False.elim hq
    | cont => exact False.elim hq
end
/-! ### promises that are told of the very state -/
abbrev SpS := List Env → Shared → Sp
structure FnOkS (P : Program) (w : World) (K : PySem.W.Frag) (mg : Str → Option Value) (base : Heap) (k : Nat) (f : Addr) (fd : FuncData) (ps : List Str) (sp : SpS) : Prop where
  len : ∀ outer s vs H Q E, sp outer s vs H Q E → vs.length = ps.length
  run : ∀ (A : Around) (outer : List Env) (s : Shared) (H : Hp) (args : Args) (us : List Value) (vs : List V) (Q : VK) (E : XK), Room k A → Env0 P w K mg base A outer s H → BindsTo s fd args (ps.zip us) → Vals vs us → sp outer s vs H Q E →
    codeAny (model P w) A (.call (.ref f) args) (CR CX0 outer P w H s Q E) s
structure CalS (P : Program) (w : World) (K : PySem.W.Frag) (mg : Str → Option Value) (base : Heap) (k : Nat) (x : Str) (ps : List Str) (sp : SpS) : Prop where
  ex : ∃ f fd, mg x = some (.ref f) ∧ PySem.W.keepIn K (.ref f) = true ∧ Binds K fd ps [] ∧ FnOkS P w K mg base k f fd ps sp
theorem okS {P : Program} {w : World} {K : PySem.W.Frag} {mg : Str → Option Value} {base : Heap} {x qual : Str} {st : Stmt} {f : Addr} {fd : FuncData} {N ps : List Str} {k : Nat} {sp : SpS} (F : L2.Fun K x qual st f fd) (S : FnScope N ps (defScope st)) (len : ∀ outer s vs H Q E, sp outer s vs H Q E → vs.length = ps.length)
    (hbody : ∀ (cdv : Value) (A : Around) (outer : List Env) (s : Shared) (H : Hp) (vs : List V) (Q : VK) (E : XK), Room k (A.deeper (envOfC qual (defScope st) s.heap.objs.size f cdv)) → sp outer s vs H Q E →
      ∃ t, PSs (cxOf CX0 P w K mg base N qual (defScope st) f cdv A outer s H E).nox (defBody st) t ∧ t { nx := fun _ H' => Q .non H', rt := Q } (L2.start N vs) H) : FnOkS P w K mg base (k + 1) f fd ps sp := by
  obtain ⟨oc, od, kV, doc, pm, an, cdv, ct, osl, rfl, lk, hcd⟩ := F.ex
  refine ⟨len, fun A outer s H args us vs Q E hr e0 hb r hsp => ?_⟩
  refine run_ofS lk hcd S hr e0 hb r (len _ _ _ _ _ _ hsp) fun hr' => ?_
  obtain ⟨t, h, q⟩ := hbody cdv A outer s H vs Q E hr' hsp
  exact ⟨t, h.nox, q⟩
/-- a def whose code object is known -/
structure FunC (K : PySem.W.Frag) (x qual : Str) (st : Stmt) (f : Addr) (fd : FuncData) (c : Addr) : Prop where
  ex : ∃ (oc : Value) (od : Option Addr) (kV doc pm : Value) (an : Option Addr) (ct : Value) (osl : Array (Option Value)),
    fd = PySem.W.fnOf x qual (defArgs st) (defBody st) (defScope st) .none kV doc pm an (.ref c) ct ∧ K.lookup f = some ⟨oc, od, .func fd, osl⟩ ∧ PySem.W.codeIn K (.ref c) qual = true
theorem okC {P : Program} {w : World} {K : PySem.W.Frag} {mg : Str → Option Value} {base : Heap} {x qual : Str} {st : Stmt} {f c : Addr} {fd : FuncData} {N ps : List Str} {k : Nat} {sp : Sp} (F : FunC K x qual st f fd c) (S : FnScope N ps (defScope st)) (len : ∀ vs H Q E, sp vs H Q E → vs.length = ps.length)
    (hbody : ∀ (A : Around) (outer : List Env) (s : Shared) (H : Hp) (vs : List V) (Q : VK) (E : XK), Room k (A.deeper (envOfC qual (defScope st) s.heap.objs.size f (.ref c))) → sp vs H Q E →
      ∃ t, PSs (cxOf CX0 P w K mg base N qual (defScope st) f (.ref c) A outer s H E).nox (defBody st) t ∧ t { nx := fun _ H' => Q .non H', rt := Q } (L2.start N vs) H) : FnOk P w K mg base CX0 (k + 1) f fd ps sp := by
  obtain ⟨oc, od, kV, doc, pm, an, ct, osl, rfl, lk, hcd⟩ := F.ex
  refine fn_of lk hcd S len fun A outer s H vs Q E hr hsp => ?_
  obtain ⟨t, h, q⟩ := hbody A outer s H vs Q E hr hsp
  exact ⟨t, h.nox, q⟩
/-- a def of the module is called, its promise told of the very state; the captured cells are known -/
def tCallS (sp : SpS) (cl : List (Str × Addr)) (fr : List Str) (js : List Nat) (t : TA) : TE := fun σ H Q => t σ H fun vs H1 => ∀ outer s, CellsAt cl fr (js.map (slotAt σ)) s.heap H1 → sp outer s vs H1 Q E0
section
variable {X : Cx} {j k : Nat} {x : Str} {ps : List Str} {sp : SpS} {p pos : Pos} {e : Expr} {es : List Expr} {t : TA} {cl : List (Str × Addr)} {fr : List Str} {js : List Nat}
theorem pe_calS (C : CalS X.prog X.w X.K X.mg X.base k x ps sp) (cp : X.Ok → Caps X cl fr js) (hk : k ≤ j) (hr : Room j X.A) (hg : Gl X x) (ha : PA X (e :: es) t) (hdb : (x == ("__debug__" : Str)) = false := by decide)
    (he : starEach (e :: es) X.env = (false, eval e X.env) :: starEach es X.env := by rfl) (hpl : (backTo pos (starEach es X.env)).any (·.1) = false := by rfl) : PE X (.Call (.Name x p) (e :: es) [] pos) (tCallS sp cl fr js t) := by
  obtain ⟨f, fd, m, kp, b, F⟩ := C.ex
  refine ⟨fun pins s σ H Q I h => ?_⟩
  refine wpAny_Call_Name_kw (ld_glob I hg m ?_ hdb)
  refine PySem.W.callWith_K (h₀ := X.base) I.ok.mod.kin kp (thn (ha.run pos pins s σ H _ I h) fun us s1 ⟨vs, H1, I1, r, q⟩ => ⟨I1.kIn, ?_⟩) he hpl
  have q := q X.stack s1 (cells_of I1 (cp I1.ok))
  have hl : us.length = ps.length := by rw [← r.length]; exact F.len _ _ _ _ _ _ q
  have hb := b s1 us I1.kIn (by simpa using hl)
  rw [List.append_nil] at hb
  refine wpAny_call (codeAny_mono (F.run X.A X.stack s1 H1 ⟨us, []⟩ us vs Q E0 (hr.mono hk) I1.env0 hb r q) fun r s' hq => ?_)
  cases r with
  | error e => exact (show False from hq).elim
  | ok fl =>
    cases fl with
    | ret u => exact I1.after hq
    | next => exact False.elim hq
    | brk => exact False.elim hq
    | cont => exact False.elim hq
end
end Kf

set_option Elab.async false
set_option linter.all false
set_option maxRecDepth 100000
set_option maxHeartbeats 2000000
namespace Kf
open PySem PySem.Spec PyProof.Rows L2
section
variable {X : Cx}
theorem pg_tupK {K : PySem.W.Frag} {es : List Expr} {k : Nat} {t : TGs} {n : Nat} {pos : Pos} (hK : X.K = K) (hc : X.calm = true) (h : PGs X es t) (hn : (assignEach es X.env).length = n := by rfl) (hst : (assignEach es X.env).findIdx? (·.1) = none := by rfl) : PG X (.Tuple es k pos) (gTup K n t) := hK ▸ pg_tup hc h hn hst
/-- tuple(a list or a tuple): a tuple of the same -/
def rTupQ (K : PySem.W.Frag) : List V → Hp → VK → Prop := fun vs H Q => ∃ a xs, vs = [.ref a] ∧ Sq K H a xs ∧ ∀ p H', Same H H' → SqT K H' p xs → Q (.ref p) H'
theorem call_tupQ {K : PySem.W.Frag} (hK : X.K = K) : CallR X (.type "tuple") (rTupQ K) := by
  subst hK
  intro pins s σ H xs us Q I r h
  obtain ⟨a, ys, e, h, q⟩ := h
  refine call_tuple_of pins s σ H xs us Q I r ⟨a, ys, e, ?_⟩
  rcases h with h | h
  · exact .inl ⟨h, fun l hl => q l _ (Same.new hl) (.of upd_same)⟩
  · exact .inr ⟨h, q a H (Same.refl H) h⟩
/-- name = {k: v for ..} on one line, the name a local -/
theorem ps_setDc {i : Nat} {y : Str} {py : Pos} {kx vx tg iter : Expr} {ifs : List Expr} {scope : Scope} {own : List (Str × Nat)} {pos spos : Pos} {wi : TI} {g : TG} {tt : TT} {tk tv : TE} (hc : X.calm = true) (hN : X.N.Nodup) (hy : X.N[i]? = some y) (hyl : X.env.scope.names.lookup y = some .local)
    (hsw : swapsWith (.DictComp kx vx [⟨tg, iter, ifs, 0⟩] scope pos) (some (.Name y py)) spos.line X.env = pure true) (hi : PI X tg iter wi) (ok : BlkOk X.N X.env.scope scope own)
    (hg : ∀ (s : Shared) (H : Hp) (C : Addr) (cl : List (Str × Addr)) (fp : List Addr), PG (X.blk s H scope (compEnvC scope cl C X.env) fp) tg g) (ht : ∀ (s : Shared) (H : Hp) (C : Addr) (cl : List (Str × Addr)) (fp : List Addr), PTs (X.blk s H scope (compEnvC scope cl C X.env) fp) ifs tt)
    (hk : ∀ (s : Shared) (H : Hp) (C : Addr) (cl : List (Str × Addr)) (fp : List Addr), PE (X.blk s H scope (compEnvC scope cl C X.env) fp) kx tk)
    (he : ∀ (s : Shared) (H : Hp) (C : Addr) (cl : List (Str × Addr)) (fp : List Addr), PE (X.blk s H scope (compEnvC scope cl C X.env) fp) vx tv) (hs : ∀ x, foldedSetIterable iter X.env x = pure x := by intro _; rfl) :
    PS X (.Assign [.Name y py] (.DictComp kx vx [⟨tg, iter, ifs, 0⟩] scope pos) spos) (tAsg (tDc wi g tt tk tv (own.map (·.2))) (gName i)) := by
  refine ⟨fun pins s σ H D I h => ?_⟩
  rw [exec_Assign_Name_used _ _ _ _ hsw]
  refine wpAny_bind (wpAny_standAt (wpAny_bind ?_))
  show wpAny _ X.A (do let _ ← comprehension (.DictComp kx vx [⟨tg, iter, ifs, 0⟩] scope pos) scope X.env (firstIterPos [⟨tg, iter, ifs, 0⟩] pos) newDict false (eval iter X.env) (some (assign (.Name y py) X.env))) _ _ s
  have h : tDc wi g tt tk tv (own.map (·.2)) σ H (fun x H1 => gName i x σ H1 D.nx) := h
  refine wpAny_bind (thn (dc_core (Qf := fun _ s' => SP X pins D .next s') hc hN I hi ok hg ht hk he hs h fun L C s' m H' I' q hn f => ?_) fun _ s' hq => wpAny_pure (wpAny_pure hq))
  show wpAny _ _ (assign (.Name y py) X.env (.ref L)) _ _ _
  refine wpAny_assign_Name (store_ok2 (v := V.ref L) I' hN hy (.inl hyl) rfl (fun s2 I2 ⟨a, sb, ha⟩ => ?_) (.inr hyl))
  obtain ⟨f0, f1, f2, f3, f4, f5⟩ := f
  have haC : C ≠ a := by
    rcases ha with z | z
    · rw [z]; exact f1
    · exact fun e => f4 y a z e.symm
  refine ⟨m, hn.sameBut sb haC, fun h3 sb3 => ?_⟩
  exact ⟨_, H', I2.turned (t' := s2.toks) (fun b o hb e => (sb3.2 b hb).trans e) f0 f1 f3 f4 f5, q⟩
theorem swd_true {kx vx : Expr} {gs : List Comprehension} {scope : Scope} {pos py : Pos} {y : Str} {l : Nat} {env : Env} (hk : env.scope.kind = .function) (hy : env.scope.names.lookup y = some .local) (hl : (py.line == pos.line) = true)
    (ha : (scope.names.any fun (n, k) => n == y && (k == .local || k == .cell)) = false) : swapsWith (.DictComp kx vx gs scope pos) (some (.Name y py)) l env = pure true := by
  have ky : env.kindOf y = some .local := hy
  have hb : env.blockKind = .function := by unfold Env.blockKind; rw [hk]; rfl
  unfold swapsWith
  simp only [hb, ky, ha, Expr.pos, hl]
  rfl
end
end Kf

set_option Elab.async false
set_option linter.all false
set_option maxRecDepth 100000
set_option maxHeartbeats 2000000
namespace Kf
open PySem PySem.Spec PyProof.Rows L2
/-! ## tell -/
def part1 (fl : List Str) (tr : Tr) (p : Str × Str) : Tr := setA tr p.1 (decide (p.1 ∈ fl))
def partsTr (fl : List Str) (ps : List (Str × Str)) : Tr := ps.foldl (part1 fl) []
def truth1 (bf : G → Tr → Bool) (us : Uses) (tr : Tr) : G → Bool
  | .before n x y => bf (.before n x y) tr
  | g => gTruth tr us g
def tell1 (bf : G → Tr → Bool) (us : Uses) (tr : Tr) (g : G) : Tr := setA tr g.name (truth1 bf us tr g)
def tellM (bf : G → Tr → Bool) (fl : List Str) (us : Uses) (ps : List (Str × Str)) (gs : List G) : Tr := gs.foldl (tell1 bf us) (partsTr fl ps)
/-- what a gate reads is known -/
def ReadsK (known : List Str) (us : Uses) : G → Prop
  | .all _ ins => (∀ x ∈ ins, x ∈ known) ∧ ins.length ≤ 1000
  | .any _ ins => (∀ x ∈ ins, x ∈ known) ∧ ins.length ≤ 1000
  | .least _ _ ins => (∀ x ∈ ins, x ∈ known) ∧ ins.length ≤ 1000
  | .before _ x y => x ∈ known ∧ y ∈ known
  | .spare n _ => KeyIn us n
theorem ReadsK.at {known : List Str} {us : Uses} {tr : Tr} {g : G} (h : ReadsK known us g) (k : ∀ x ∈ known, KeyIn tr x) : Reads1 tr us g := by
  cases g with
  | all n ins => exact ⟨fun x hx => k x (h.1 x hx), h.2⟩
  | any n ins => exact ⟨fun x hx => k x (h.1 x hx), h.2⟩
  | least n m ins => exact ⟨fun x hx => k x (h.1 x hx), h.2⟩
  | before n x y => exact ⟨k x h.1, k y h.2⟩
  | spare n ps => exact h
theorem keyIn_set {α : Type} {l : List (Str × α)} {n m : Str} {x : α} (h : KeyIn l m ∨ n = m) : KeyIn (setA l n x) m := by
  unfold KeyIn
  rw [setA_any]
  rcases h with h | h
  · rw [show (l.any fun p => decide (p.1 = m)) = true from h]
    rfl
  · rw [decide_eq_true h, Bool.or_true]
theorem keyIn_fold {α β : Type} {f : List (Str × β) → α → List (Str × β)} {nm : α → Str} (hf : ∀ b x m, (KeyIn b m ∨ nm x = m) → KeyIn (f b x) m) {m : Str} : ∀ (l : List α) (b : List (Str × β)), (KeyIn b m ∨ m ∈ l.map nm) → KeyIn (l.foldl f b) m
  | [], b, h => by
    rcases h with h | h
    · exact h
    · cases h
  | x :: r, b, h => by
    refine keyIn_fold hf r (f b x) ?_
    rcases h with h | h
    · exact .inl (hf b x m (.inl h))
    · rcases List.mem_cons.mp h with e | h
      · exact .inl (hf b x m (.inr e.symm))
      · exact .inr h
theorem keyIn_parts {fl : List Str} {ps : List (Str × Str)} {m : Str} (h : m ∈ ps.map (·.1)) : KeyIn (partsTr fl ps) m := keyIn_fold (nm := fun p : Str × Str => p.1) (fun b x m h => keyIn_set h) ps [] (.inr h)
theorem keyIn_tell {bf : G → Tr → Bool} {us : Uses} {tr : Tr} {gs : List G} {m : Str} (h : KeyIn tr m ∨ m ∈ gs.map G.name) : KeyIn (gs.foldl (tell1 bf us) tr) m := keyIn_fold (nm := G.name) (fun b x m h => keyIn_set h) gs tr h
/-- the gates' inputs, one after the other -/
structure TellOk (ps : List (Str × Str)) (us : Uses) (gs : List G) : Prop where
  each : ∀ i g, gs[i]? = some g → ReadsK (ps.map (·.1) ++ (gs.take i).map G.name) us g
  pl : ps.length ≤ 400
  gl : gs.length ≤ 400
/-- what is asked of the function that tells a before gate -/
def spBf (K : PySem.W.Frag) (bf : G → Tr → Bool) : List V → Hp → VK → Prop := fun vs H Q => ∃ v b n x y tr, vs = [v, .ref b] ∧ GateAt K H v (.before n x y) ∧ H b = some (.dK (dS V.bl tr)) ∧ KeyIn tr x ∧ KeyIn tr y ∧ ∀ H', Same H H' → Q (.bl (bf (.before n x y) tr)) H'
section
variable {P : Program} {w : World} {K : PySem.W.Frag} {mg : Str → Option Value} {base : Heap}
def spTell (P : Program) (w : World) (K : PySem.W.Frag) (mg : Str → Option Value) (base : Heap) : SpS := fun outer s vs H Q _ => ∃ a xs ps b ys gs c fl u us f J bf, vs = [.ref a, .ref b, .ref c, .ref u, .ref f] ∧ Sq K H a xs ∧ Each (PartAt K H) xs ps ∧ Sq K H b ys ∧ Each (GateAt K H) ys gs ∧ Sq K H c (sV fl) ∧ H u = some (.dK (dS V.str us)) ∧
  J H ∧ LamAt P w K mg base 2 outer s H f 2 J (spBf K bf) ∧ TellOk ps us gs ∧ ∀ H' p, Same H H' → H p = none → H' p = some (.dK (dS V.bl (tellM bf fl us ps gs))) → Q (.ref p) H'
theorem ok_tell {f : Addr} {fd : FuncData} (F : Fun K "tell" "tell" s_tell f fd) (T : Nm mg) (C_gate_truth : Cal P w K mg base 1 "gate_truth" ["gate", "truths", "uses"] (spGateTruth K)) : FnOkS P w K mg base 4 f fd ["parts", "gates", "failed", "uses", "before"] (spTell P w K mg base) := by
  refine okS F sc_tell (fun outer s vs H Q E h => ?_) (fun cdv A outer s H vs Q E hr h => ?_)
  · obtain ⟨a, xs, ps, b, ys, gs, c, fl, u, us, f, J, bf, rfl, _⟩ := h
    rfl
  · obtain ⟨a, xs, ps, b, ys, gs, c, fl, u, us, f, J, bf, rfl, ha, hea, hb, heb, hc, hu0, hJ, hL, ok, q⟩ := h
    have hu := hu_of hr
    refine ⟨_, (pss_cons (ps_setDc (i := 5) (own := [("name", 7), ("_", 8)]) (by rfl) sc_tell.nd rfl rfl (swd_true rfl rfl rfl (by decide +kernel)) (pi_sq (pv 0)) (blkOk_by (own := [("name", 7), ("_", 8)]) (N := ["parts", "gates", "failed", "uses", "before", "truths", "gate", "name", "_"]) (sc := defScope s_tell) (by decide +kernel)) (fun _ _ _ _ _ => (pg_tupK (K := K) (n := 2) rfl rfl (pgs_cons (pg_name (i := 7) sc_tell.nd rfl (.inl rfl)) (pgs_cons (pg_name (i := 8) sc_tell.nd rfl (.inl rfl)) pgs_nil)))) (fun _ _ _ _ _ => pts_nil) (fun _ _ _ _ _ => (pv 7)) (fun _ _ _ _ _ => (pe_cmpR (op_inK (K := K) rfl) (pv 7) (pv 2) (by with_unfolding_all rfl))))
 (pss_cons (ps_for PassesOwn.never rfl (pi_sq (pv 1)) (pg_name (i := 6) sc_tell.nd rfl (.inl rfl))
 (pss_one (ps_if (pt_cmpR op_eq (pe_ix (ix_sqK (K := K) rfl) (pv 6) pe_int (fun _ _ => rfl)) pe_str (nomark _))
 (pss_one (ps_dput hu (pv 5) (pe_ix (ix_sqK (K := K) rfl) (pv 6) pe_int (fun _ _ => rfl)) (pe_callJ (i := 4) hL rfl rfl hr (by decide) rfl (by first | exact Or.inl rfl | exact Or.inr (Or.inl rfl) | exact Or.inr (Or.inr rfl)) (pa_cons (pv 6) (pa_cons (pv 5) pa_nil))) rfl))
 (pss_one (ps_dput hu (pv 5) (pe_ix (ix_sqK (K := K) rfl) (pv 6) pe_int (fun _ _ => rfl)) (pe_cal C_gate_truth (by decide) hr (by rfl) (pa_cons (pv 6) (pa_cons (pv 5) (pa_cons (pv 3) pa_nil)))) rfl)))))
 (pss_one (ps_ret (pv 5))))), ?_⟩
    obtain ⟨da, hda⟩ := ha.b
    obtain ⟨db, hdb⟩ := hb.b
    have ela := hea.1
    have elb := heb.1
    have hpl := ok.pl
    have hgl := ok.gl
    have p1 : ∀ b x, (part1 fl b x).length ≤ b.length + 1 := fun b x => setA_le ..
    have t1 : ∀ b x, (tell1 bf us b x).length ≤ b.length + 1 := fun b x => setA_le ..
    refine ⟨.ref a, rfl, a, da, rfl, ⟨_, hda⟩, fun D nD => ?_⟩
    refine dc_it (walk_sq (xs := xs)) (DP H D fun i => dS V.bl ((ps.take i).foldl (part1 fl) [])) (DP.zero nD rfl) (fun _ _ _ p => Same.sqb p.sm hda) (fun i x H2 H3 hi p y => ?_) (fun H2 p => ?_)
    · obtain ⟨rfl, hx⟩ := y
      obtain ⟨pt, hpt, t, rfl, r⟩ := hea.2 i x hx
      have r := Same.sqt p.sm r
      refine ⟨t, _, rfl, r, rfl, .str pt.1, _, rfl, .str pt.2, [], rfl, rfl, rfl, .str pt.1, rfl, .str pt.1, rfl, .ref c, rfl, c, _, rfl, Same.sq p.sm hc, rfl, flat_sV _, ?_⟩
      refine p.put nD (k := .inr pt.1) rfl (Same.refl _) ?_ ?_
      · rw [fold_succ (part1 fl) ([] : Tr) hpt]
        show _ = putK _ _ (V.bl (inV (.str pt.1) (sV fl)))
        rw [inV_sV, putK_dS V.bl]
        rfl
      · rw [dS_len, sizeLine_eq]
        have := fold_le p1 (ps.take i) []
        simp at this
        omega
    · have hD : H2 D = some (.dK (dS V.bl (partsTr fl ps))) := by
        rw [p.at_, ela, List.take_length]
        rfl
      have hdb2 := Same.sqb p.sm hdb
      refine ⟨.ref b, rfl, b, db, rfl, ⟨_, hdb2⟩, for_it (walk_sq (xs := ys)) (fun i σ H3 => ∃ y6 y7 y8, σ = [some (.ref a), some (.ref b), some (.ref c), some (.ref u), some (.ref f), some (.ref D), y6, y7, y8] ∧ Same H H3 ∧ H3 D = some (.dK (dS V.bl ((gs.take i).foldl (tell1 bf us) (partsTr fl ps))))) ⟨_, _, _, rfl, p.sm, hD⟩ (fun i σ H3 hi p => ?_) (fun i x σ H3 H4 hi p y => ?_) (fun σ H3 p => ?_)⟩
      · obtain ⟨_, _, _, _, sm, _⟩ := p
        exact Same.sqb sm hdb
      · obtain ⟨y6, y7, y8, rfl, sm, hn⟩ := p
        obtain ⟨rfl, hx⟩ := y
        obtain ⟨g, hg, r⟩ := heb.2 i x hx
        have r := GateAt.kt (Same.kt sm) r
        obtain ⟨t, rest, rfl, ht, _⟩ := r.cut
        have hrd : Reads1 ((gs.take i).foldl (tell1 bf us) (partsTr fl ps)) us g := (ok.each i g hg).at fun x hx => keyIn_tell (by
          rcases List.mem_append.mp hx with h | h
          · exact .inl (keyIn_parts h)
          · exact .inr h)
        have suc := fold_succ (tell1 bf us) (partsTr fl ps) hg
        have hlen : (dS V.bl ((gs.take i).foldl (tell1 bf us) (partsTr fl ps))).length ≤ 1000 := by
          rw [dS_len]
          have h1 := fold_le t1 (gs.take i) (partsTr fl ps)
          have h2 := fold_le p1 ps []
          have h3 : (partsTr fl ps).length ≤ ps.length := by simpa [partsTr] using h2
          simp at h1
          omega
        have fin : ∀ H5 : Hp, Same H4 H5 → Same H (upd H5 D (.dK (putK (dS V.bl ((gs.take i).foldl (tell1 bf us) (partsTr fl ps))) (.inr g.name) (.bl (truth1 bf us ((gs.take i).foldl (tell1 bf us) (partsTr fl ps)) g))))) ∧ (upd H5 D (.dK (putK (dS V.bl ((gs.take i).foldl (tell1 bf us) (partsTr fl ps))) (.inr g.name) (.bl (truth1 bf us ((gs.take i).foldl (tell1 bf us) (partsTr fl ps)) g))))) D = some (.dK (dS V.bl ((gs.take (i + 1)).foldl (tell1 bf us) (partsTr fl ps)))) := fun H5 s5 => ⟨Same.at (sm.trans s5) nD, by
          rw [upd_same, putK_dS V.bl, suc]
          rfl⟩
        have pD : ∀ (H5 : Hp) (v : V), Same H4 H5 → DPut H5 D (.str g.name) v (upd H5 D (.dK (putK (dS V.bl ((gs.take i).foldl (tell1 bf us) (partsTr fl ps))) (.inr g.name) v))) := fun H5 v s5 => DPut.k (k := .inr g.name) (s5 _ _ hn) (small1000 hlen)
        refine ⟨.ref t, rfl, t, _, 1, .str g.word, rfl, rfl, .inr ht, at1, rfl, _, rfl, ?_⟩
        have other : (∀ n x y, g ≠ G.before n x y) → truth1 bf us ((gs.take i).foldl (tell1 bf us) (partsTr fl ps)) g = gTruth ((gs.take i).foldl (tell1 bf us) (partsTr fl ps)) us g := fun h => by
          cases g with
          | before n x y => exact absurd rfl (h n x y)
          | _ => rfl
        by_cases hw : ∃ n x y, g = G.before n x y
        · obtain ⟨n, x, y, rfl⟩ := hw
          refine iteD rfl ?_
          refine ⟨rfl, hL.sm _ _ sm hJ, .ref t, rfl, .ref D, rfl, hL.sm _ _ sm hJ, rfl, .ref t, D, n, x, y, _, rfl, r, hn, hrd.1, hrd.2, fun H5 s5 => ?_⟩
          refine ⟨.ref D, rfl, .ref t, rfl, t, _, 0, .str n, rfl, rfl, .inr (Same.sqt s5 ht), at0, D, _, rfl, pD H5 _ s5, ?_⟩
          exact ⟨_, _, _, rfl, fin H5 s5⟩
        · have nb : ∀ n x y, g ≠ G.before n x y := fun n x y e => hw ⟨n, x, y, e⟩
          have wb : g.word ≠ "before" := by
            cases g with
            | before n x y => exact absurd rfl (nb n x y)
            | all _ _ => exact ne_all_before
            | any _ _ => exact ne_any_before
            | least _ _ _ => exact ne_least_before
            | spare _ _ => exact ne_spare_before
          refine iteN (litNe wb) ?_
          refine ⟨.ref t, rfl, .ref D, rfl, .ref u, rfl, .ref t, D, u, g, _, us, rfl, r, hn, sm _ _ hu0, hrd, nb, fun H5 s5 => ?_⟩
          refine ⟨.ref D, rfl, .ref t, rfl, t, _, 0, .str g.name, rfl, rfl, .inr (Same.sqt s5 ht), at0, D, _, rfl, pD H5 _ s5, ?_⟩
          rw [← other nb]
          exact ⟨_, _, _, rfl, fin H5 s5⟩
      · obtain ⟨_, _, _, rfl, sm, hn⟩ := p
        rw [elb, List.take_length] at hn
        exact ⟨.ref D, rfl, q _ D sm nD hn⟩
end
end Kf

set_option Elab.async false
set_option linter.all false
set_option maxRecDepth 100000
set_option maxHeartbeats 2000000
namespace Kf
open PySem PySem.Spec PyProof.Rows L2 LamX NdefX
/-! ## is_top -/
theorem caps0 {X : Cx} : Caps X [] [] [] := ⟨fun y c e => (by cases e), fun y h => (by cases h), fun y h => (by cases h), rfl⟩
theorem qn_is_top : ("is_top.<locals>.<lambda>" : Str) = (("is_top" : Str) ++ ".<locals>.") ++ "<lambda>" := by decide +kernel
theorem lam_free {names : List (Str × NameKind)} {R : Str × NameKind → Prop} (h : ∀ y ∈ names, y.2 ≠ .free) : ∀ y ∈ names, y.2 = .free → R y := fun y hy e => absurd e (h y hy)
def noBefore : G → Tr → Bool := fun _ _ => false
theorem Sm.lst {T : List NTab} {H H' : Hp} {a : Addr} {o : HO} (s : Sm T H H') (h : H a = some o) (n : ∀ ps, o ≠ .tbl ps) : H' a = some o := s.kp _ _ h n
theorem Sm.sqt {T : List NTab} {K : PySem.W.Frag} {H H' : Hp} {a : Addr} {xs : List V} (e : Sm T H H') (h : SqT K H a xs) : SqT K H' a xs := by
  rcases h with (h | ⟨o, h⟩) | h
  · exact .inl (.inl (e.kp _ _ h (by intro _ z; cases z)))
  · exact .inl (.inr ⟨o, e.kp _ _ h (by intro _ z; cases z)⟩)
  · exact .inr h
theorem Sm.sql {T : List NTab} {K : PySem.W.Frag} {H H' : Hp} {a : Addr} {xs : List V} (e : Sm T H H') (h : SqL K H a xs) : SqL K H' a xs := by
  rcases h with (h | ⟨o, h⟩) | h
  · exact .inl (.inl (e.kp _ _ h (by intro _ z; cases z)))
  · exact .inl (.inr ⟨o, e.kp _ _ h (by intro _ z; cases z)⟩)
  · exact .inr h
theorem Sm.sq {T : List NTab} {K : PySem.W.Frag} {H H' : Hp} {a : Addr} {xs : List V} (e : Sm T H H') (h : Sq K H a xs) : Sq K H' a xs := by
  rcases h with h | h
  · exact .inl (e.sql h)
  · exact .inr (e.sqt h)
theorem Sm.kt {T : List NTab} {K : PySem.W.Frag} {H H' : Hp} (s : Sm T H H') : KT K H H' := fun _ _ h => s.sqt h
section
variable {P : Program} {w : World} {K : PySem.W.Frag} {mg : Str → Option Value} {base : Heap}
/-- the plant's top is the name of a gate that is false at the beginning -/
structure TopOk (ps : List (Str × Str)) (gs : List G) (tp : Str) : Prop where
  mem : tp ∈ gs.map G.name
  tell : TellOk ps (firstU gs) gs
  pool : ∀ n qs, G.spare n qs ∈ gs → qs.length ≤ 1000
  no : lookT (tellM noBefore [] (firstU gs) ps gs) tp = false
def spIsTop (K : PySem.W.Frag) (T0 : List NTab) : Sp := fun vs H Q _ => ∃ tp a xs ps b ys gs, vs = [.str tp, .ref a, .ref b] ∧ Sq K H a xs ∧ Each (PartAt K H) xs ps ∧ Sq K H b ys ∧ Each (GateAt K H) ys gs ∧ TopOk ps gs tp ∧ TabsN T0 H ∧ ∀ H', Sm T0 H H' → Q (.bl true) H'
theorem ok_is_top {f c Pt : Addr} {fd : FuncData} {T0 : List NTab} {nm : Nat → Nat → Str} (F : FunC K "is_top" "is_top" s_is_top f fd c) (T : Nm mg) (TB : TabB base mg c Pt) (hm : (Pt, nm) ∈ T0) (hn : ∀ i j, nm i j = "is_top.<locals>.<lambda>") (hun : ∀ p ∈ T0, p.1 = Pt → p.2 = nm)
    (C_first_uses : Cal P w K mg base 2 "first_uses" ["gates"] (spFirst K)) (C_tell : CalS P w K mg base 4 "tell" ["parts", "gates", "failed", "uses", "before"] (spTell P w K mg base)) : FnOk P w K mg base CX0 5 f fd ["value", "parts", "gates"] (spIsTop K T0) := by
  refine okC F sc_is_top (fun vs H Q E h => ?_) (fun A outer s H vs Q E hr h => ?_)
  · obtain ⟨tp, a, xs, ps, b, ys, gs, rfl, _⟩ := h
    rfl
  · obtain ⟨tp, a, xs, ps, b, ys, gs, rfl, ha, hea, hb, heb, ok, hT, q⟩ := h
    have hu := hu_of hr
    refine ⟨_, (pss_cons (ps_if (pt_cmpR (op_notInK (K := K) rfl) (pv 0) (pe_lc (own := [("gate", 4)]) (g := gName 4) (by rfl) sc_is_top.nd (pi_sq (pv 2)) (blkOk_by (own := [("gate", 4)]) (N := ["value", "parts", "gates", "truths", "gate"]) (sc := defScope s_is_top) (by decide +kernel)) (fun _ _ _ _ _ => pg_name (i := 4) sc_is_top.nd rfl (.inl rfl)) (fun _ _ _ _ _ => pts_nil) (fun _ _ _ _ _ => (pe_ix (ix_sqK (K := K) rfl) (pv 4) pe_int (fun _ _ => rfl)))) (by with_unfolding_all rfl))
 (pss_one (ps_ret pe_bl))
 pss_nil)
 (pss_cons (ps_set (i := 3) sc_is_top.nd rfl (.inl rfl) (pe_calS (cl := []) (fr := []) (js := []) C_tell (fun _ => caps0) (by decide) hr (by rfl) (pa_cons (pv 1) (pa_cons (pv 2) (pa_cons (pe_tup pa_nil) (pa_cons (pe_cal C_first_uses (by decide) hr (by rfl) (pa_cons (pv 2) pa_nil)) (pa_cons (pe_lam TB rfl hm (by rw [hn]; exact qn_is_top) hun (lam_free (by decide +kernel)) rfl) pa_nil)))))))
 (pss_one (ps_ret (pe_not (pe_dget hu (pv 3) (pv 0) (fun _ _ => rfl))))))), ?_⟩
    obtain ⟨d, hd⟩ := hb.b
    have el := heb.1
    have hgl := ok.tell.gl
    refine ⟨.str tp, rfl, .ref b, rfl, b, d, rfl, ⟨_, hd⟩, fun D nD => ?_⟩
    refine lc_it (walk_sq (xs := ys)) (LP H D fun i => sV ((gs.take i).map G.name)) (LP.zero nD rfl) (fun _ _ _ p => Same.sqb p.sm hd) (fun i x H2 H3 hi p y => ?_) (fun H2 p => ?_)
    · obtain ⟨rfl, hx⟩ := y
      obtain ⟨g, hg, r⟩ := heb.2 i x hx
      obtain ⟨t, rest, rfl, ht, _⟩ := (GateAt.kt (Same.kt p.sm) r).cut
      refine ⟨rfl, .ref t, rfl, t, _, 0, .str g.name, rfl, rfl, .inr ht, at0, ?_⟩
      refine p.put nD (Same.refl _) ?_ ?_
      · show sV _ = sV _ ++ [_]
        rw [List.take_add_one, hg]
        simp [sV]
      · rw [sizeLine_eq]
        simp [sV]
        omega
    · have hD : H2 D = some (.lst (sV (gs.map G.name))) := by rw [p.at_, el, List.take_length]
      refine ⟨D, _, rfl, .inl (.of hD), rfl, flat_sV _, false, by show V.bl (!inV (.str tp) (sV (gs.map G.name))) = _; rw [inV_sV, decide_eq_true ok.mem]; rfl, iteF ?_⟩
      refine ⟨.ref a, rfl, .ref b, rfl, Nat.zero_le _, fun e ne => ?_⟩
      have s3 : Same H2 (upd H2 e (.tup [])) := Same.new ne
      have s3' := p.sm.trans s3
      refine ⟨.ref b, rfl, b, ys, gs, rfl, Same.sq s3' hb, heb.imp fun _ _ r => GateAt.kt (Same.kt s3') r, by omega, ok.pool, fun H4 u s4 nu hu4 => ?_⟩
      have s4' := s3'.trans s4
      refine ⟨hT.ext s4', fun fl c' H5 sm5 T5 f0 f1 c1 => ?_⟩
      have s5 : Sm T0 H H5 := (Same.sm s4').trans sm5
      have he5 : SqT K H5 e (sV []) := sm5.sqt (Same.sqt s4 (.of upd_same))
      have hu5 := sm5.lst hu4 (by intro _ z; cases z)
      intro outer' s' cells
      refine ⟨a, xs, ps, b, ys, gs, e, [], u, firstU gs, fl, fun H' => H' fl = some (LmO fl (mkLam _ _ _ c') _) ∧ H' c' = some (CodeO c' _), noBefore, rfl, s5.sq ha, hea.imp fun _ _ r => PartAt.kt s5.kt r, s5.sq hb, heb.imp fun _ _ r => GateAt.kt s5.kt r, .inr he5, hu5, ⟨f1, c1⟩, ?_, ok.tell, fun H6 tr s6 ntr htr => ?_⟩
      · refine lamAt_of (ps := ["gate", "told"]) (fr := []) (ws := []) (sp := fun _ vs H' Q' => Q' (.bl false) H') (lok_of (N := ["gate", "told"]) (k := 1) (show NScope ["gate", "told"] ["gate", "told"] [] { kind := .function, names := [("gate", .local), ("told", .local)], isGenerator := false, isCoroutine := false } from nscope_by (by decide +kernel)) (fun pm ctv us hl => match us, hl with | [_, _], _ => rfl) (fun A outer s H vs ws Q E hr hw hl hsp => ⟨_, pe_bl, hsp⟩)) cells (fun H' j => j) (fun H' H'' sm j => ⟨sm _ _ j.1, sm _ _ j.2⟩) (fun vs H' Q' j hsp => ?_)
        obtain ⟨v, b', n, x, y, tr, _, _, _, _, _, q'⟩ := hsp
        exact q' H' (Same.refl _)
      · have kin : KeyIn (tellM noBefore [] (firstU gs) ps gs) tp := keyIn_tell (.inr ok.mem)
        refine ⟨.ref tr, rfl, .str tp, rfl, tr, _, rfl, kin.look htr, _, rfl, ?_⟩
        rw [ok.no]
        exact q _ (s5.trans (Same.sm s6))
end
end Kf

set_option Elab.async false
set_option linter.all false
set_option maxRecDepth 100000
set_option maxHeartbeats 2000000
namespace Kf
open PySem PySem.Spec PyProof.Rows L2 LamX NdefX
/-! ## the class Plant -/
structure SmX (x : Addr) (T : List NTab) (H H' : Hp) : Prop where
  kp : ∀ b o, H b = some o → (∀ ps, o ≠ .tbl ps) → b ≠ x → H' b = some o
  nn : ∀ b, H' b = none → H b = none
  tb : TabsN T H → TabsN T H'
theorem Sm.x {x : Addr} {T : List NTab} {H H' : Hp} (s : Sm T H H') : SmX x T H H' := ⟨fun b o e n _ => s.kp b o e n, s.nn, s.tb⟩
theorem SmX.trans {x : Addr} {T : List NTab} {H H1 H2 : Hp} (a : SmX x T H H1) (b : SmX x T H1 H2) : SmX x T H H2 := ⟨fun c o e n m => b.kp c o (a.kp c o e n m) n m, fun c h => a.nn c (b.nn c h), fun t => b.tb (a.tb t)⟩
theorem tabs_upd {T : List NTab} {H : Hp} {x : Addr} {o o' : HO} (h : H x = some o) (n : ∀ ps, o ≠ .tbl ps) (n2 : ∀ f, o ≠ .ext f) (t : TabsN T H) : TabsN T (upd H x o') := fun p hp => by
  obtain ⟨ps, a1, a2, a3⟩ := t p hp
  have nx : p.1 ≠ x := fun z => by
    rw [z, h] at a1
    exact n ps (Option.some.inj a1)
  refine ⟨ps, by rw [upd_ne nx]; exact a1, a2, fun p' cv hc => ?_⟩
  obtain ⟨c, e1, e2⟩ := a3 p' cv hc
  have hb : c ≠ x := fun z => by
    rw [z, h] at e2
    exact n2 _ (Option.some.inj e2)
  exact ⟨c, e1, by rw [upd_ne hb]; exact e2⟩
/-- a write at x itself -/
theorem SmX.at {x : Addr} {T : List NTab} {H : Hp} {o o' : HO} (h : H x = some o) (n : ∀ ps, o ≠ .tbl ps) (n2 : ∀ f, o ≠ .ext f) : SmX x T H (upd H x o') :=
  ⟨fun b u e _ m => by rw [upd_ne m]; exact e, fun b e => upd_none e, tabs_upd h n n2⟩
theorem SmX.sqt {x : Addr} {T : List NTab} {K : PySem.W.Frag} {H H' : Hp} {a : Addr} {xs : List V} (e : SmX x T H H') {C dx : Addr} {fs : List (Str × V)} (hx : H x = some (.ins C dx fs)) (h : SqT K H a xs) : SqT K H' a xs := by
  rcases h with (h | ⟨o, h⟩) | h
  · exact .inl (.inl (e.kp _ _ h (by intro _ z; cases z) (ne_of h hx (by intro z; cases z))))
  · exact .inl (.inr ⟨o, e.kp _ _ h (by intro _ z; cases z) (ne_of h hx (by intro z; cases z))⟩)
  · exact .inr h
theorem SmX.sq {x : Addr} {T : List NTab} {K : PySem.W.Frag} {H H' : Hp} {a : Addr} {xs : List V} (e : SmX x T H H') {C dx : Addr} {fs : List (Str × V)} (hx : H x = some (.ins C dx fs)) (h : Sq K H a xs) : Sq K H' a xs := by
  rcases h with h | h
  · rcases h with (h | ⟨o, h⟩) | h
    · exact .inl (.inl (.inl (e.kp _ _ h (by intro _ z; cases z) (ne_of h hx (by intro z; cases z)))))
    · exact .inl (.inl (.inr ⟨o, e.kp _ _ h (by intro _ z; cases z) (ne_of h hx (by intro z; cases z))⟩))
    · exact .inl (.inr h)
  · exact .inr (e.sqt hx h)
theorem SmX.kt {x : Addr} {T : List NTab} {K : PySem.W.Frag} {H H' : Hp} (e : SmX x T H H') {C dx : Addr} {fs : List (Str × V)} (hx : H x = some (.ins C dx fs)) : KT K H H' := fun _ _ h => e.sqt hx h
theorem f_pg : ¬ ("_parts" : Str) = "_gates" := by decide +kernel
theorem f_pc : ¬ ("_parts" : Str) = "_causes" := by decide +kernel
theorem f_pt : ¬ ("_parts" : Str) = "_top" := by decide +kernel
theorem f_gc : ¬ ("_gates" : Str) = "_causes" := by decide +kernel
theorem f_gt : ¬ ("_gates" : Str) = "_top" := by decide +kernel
theorem f_ct : ¬ ("_causes" : Str) = "_top" := by decide +kernel
def plF (p g c t : V) : List (Str × V) := [("_parts", p), ("_gates", g), ("_causes", c), ("_top", t)]
theorem putF_ne {f g : Str} {v x : V} {r : List (Str × V)} (h : ¬ g = f) : putF f v ((g, x) :: r) = (g, x) :: putF f v r := if_neg h
theorem plF_eq (p g c t : V) : putF "_top" t (putF "_causes" c (putF "_gates" g (putF "_parts" p []))) = plF p g c t := by
  rw [show putF "_parts" p [] = [(("_parts" : Str), p)] from rfl, putF_ne f_pg, show putF "_gates" g [] = [(("_gates" : Str), g)] from rfl, putF_ne f_pc, putF_ne f_gc, show putF "_causes" c [] = [(("_causes" : Str), c)] from rfl, putF_ne f_pt, putF_ne f_gt, putF_ne f_ct]
  rfl
/-- the class, as the top has made it -/
structure PlC (K : PySem.W.Frag) (mg : Str → Option Value) (C : Addr) : Prop where
  cl : Cls K C
  nP : NoAttr K C "_parts"
  nG : NoAttr K C "_gates"
  nC : NoAttr K C "_causes"
  nT : NoAttr K C "_top"
  mgC : mg "Plant" = some (.ref C)
structure PlantOk (ps : List (Str × Str)) (gs : List G) (cs : List (Str × List Str)) (tp : Str) : Prop where
  parts : PartsOk ps
  gates : GatesOk (ps.map (·.1)) gs
  causes : CausesOk (ps.map (·.1)) (ps.map (·.1) ++ gs.map G.name) cs
  top : TopOk ps gs tp
section
variable {P : Program} {w : World} {K : PySem.W.Frag} {mg : Str → Option Value} {base : Heap}
def spInit (K : PySem.W.Frag) (C : Addr) (T0 : List NTab) : Sp := fun vs H Q _ => ∃ x dx a xs ps b ys gs c zs cs tp, vs = [.ref x, .ref a, .ref b, .ref c, .str tp] ∧ H x = some (.ins C dx []) ∧ Sq K H a xs ∧ Each (PartAt K H) xs ps ∧ Sq K H b ys ∧ Each (GateAt K H) ys gs ∧ Sq K H c zs ∧ Each (CauseAt K H) zs cs ∧ PlantOk ps gs cs tp ∧ TabsN T0 H ∧
  ∀ H' pa ga ca, SmX x T0 H H' → H' x = some (.ins C dx (plF (.ref pa) (.ref ga) (.ref ca) (.str tp))) → SqT K H' pa xs → SqT K H' ga ys → SqT K H' ca zs → Q .non H'
theorem ok_init {f C : Addr} {fd : FuncData} {T0 : List NTab} (F : L2.Fun K "__init__" "Plant.__init__" s_Plant___init__ f fd) (T : Nm mg) (L : PlC K mg C) (C_are_parts : Cal P w K mg base 3 "are_parts" ["value"] (spAreParts K)) (C_are_gates : Cal P w K mg base 5 "are_gates" ["value", "parts"] (spAreGates K))
    (C_are_causes : Cal P w K mg base 4 "are_causes" ["value", "parts", "names"] (spAreCauses K)) (C_is_top : Cal P w K mg base 5 "is_top" ["value", "parts", "gates"] (spIsTop K T0)) : FnOk P w K mg base CX0 6 f fd ["self", "parts", "gates", "causes", "top"] (spInit K C T0) := by
  refine F.ok sc_Plant___init__ (fun vs H Q E h => ?_) (fun cdv A outer s H vs Q E hr h => ?_)
  · obtain ⟨x, dx, a, xs, ps, b, ys, gs, c, zs, cs, tp, rfl, _⟩ := h
    rfl
  · obtain ⟨x, dx, a, xs, ps, b, ys, gs, c, zs, cs, tp, rfl, hx, ha, hea, hb, heb, hc, hec, ok, hT, q⟩ := h
    refine ⟨_, (pss_cons (ps_if (pt_not (pt_val (pe_cal C_are_parts (by decide) hr (by rfl) (pa_cons (pv 1) pa_nil))))
 (pss_one ps_never)
 pss_nil)
 (pss_cons (ps_setLc (i := 5) (own := [("part", 6)]) (g := gName 6) (by rfl) sc_Plant___init__.nd rfl rfl (sw_true rfl rfl rfl (by decide +kernel)) (pi_sq (pv 1)) (blkOk_by (own := [("part", 6)]) (N := ["self", "parts", "gates", "causes", "top", "names", "part", "gate"]) (sc := defScope s_Plant___init__) (by decide +kernel)) (fun _ _ _ _ _ => pg_name (i := 6) sc_Plant___init__.nd rfl (.inl rfl)) (fun _ _ _ _ _ => pts_nil) (fun _ _ _ _ _ => (pe_ix (ix_sqK (K := K) rfl) (pv 6) pe_int (fun _ _ => rfl))))
 (pss_cons (ps_if (pt_not (pt_val (pe_cal C_are_gates (by decide) hr (by rfl) (pa_cons (pv 2) (pa_cons (pv 5) pa_nil)))))
 (pss_one ps_never)
 pss_nil)
 (pss_cons (ps_if (pt_not (pt_val (pe_cal C_are_causes (by decide) hr (by rfl) (pa_cons (pv 3) (pa_cons (pv 5) (pa_cons (pe_op op_cat (pv 5) (pe_lc (own := [("gate", 7)]) (g := gName 7) (by rfl) sc_Plant___init__.nd (pi_sq (pv 2)) (blkOk_by (own := [("gate", 7)]) (N := ["self", "parts", "gates", "causes", "top", "names", "part", "gate"]) (sc := defScope s_Plant___init__) (by decide +kernel)) (fun _ _ _ _ _ => pg_name (i := 7) sc_Plant___init__.nd rfl (.inl rfl)) (fun _ _ _ _ _ => pts_nil) (fun _ _ _ _ _ => (pe_ix (ix_sqK (K := K) rfl) (pv 7) pe_int (fun _ _ => rfl))))) pa_nil))))))
 (pss_one ps_never)
 pss_nil)
 (pss_cons (ps_if (pt_not (pt_val (pe_cal C_is_top (by decide) hr (by rfl) (pa_cons (pv 4) (pa_cons (pv 1) (pa_cons (pv 2) pa_nil))))))
 (pss_one ps_never)
 pss_nil)
 (pss_cons (ps_fld (pv 0) (pe_callTy (call_tupQ (K := K) rfl) (by rfl) T.n_tuple (by decide +kernel) (pa_cons (pv 1) pa_nil)) rfl)
 (pss_cons (ps_fld (pv 0) (pe_callTy (call_tupQ (K := K) rfl) (by rfl) T.n_tuple (by decide +kernel) (pa_cons (pv 2) pa_nil)) rfl)
 (pss_cons (ps_fld (pv 0) (pe_callTy (call_tupQ (K := K) rfl) (by rfl) T.n_tuple (by decide +kernel) (pa_cons (pv 3) pa_nil)) rfl)
 (pss_one (ps_fld (pv 0) (pv 4) rfl)))))))))), ?_⟩
    have hpl := ok.parts.hi
    have hgl := ok.gates.hi
    have ela := hea.1
    have elb := heb.1
    -- parts
    refine ⟨.ref a, rfl, ⟨.ref a, rfl, ⟨a, xs, ps, rfl, ha, hea, ok.parts⟩, fun H2 s2 => ⟨true, rfl, iteF ?_⟩⟩⟩
    have ha2 := Same.sq s2 ha
    obtain ⟨da, hda⟩ := ha2.b
    refine ⟨.ref a, rfl, a, da, rfl, ⟨_, hda⟩, fun N nN => ?_⟩
    refine lc_it (walk_sq (xs := xs)) (LP H2 N fun i => sV ((ps.take i).map (·.1))) (LP.zero nN rfl) (fun _ _ _ p => Same.sqb p.sm hda) (fun i x H3 H4 hi p y => ?_) (fun H3 p => ?_)
    · obtain ⟨rfl, hx⟩ := y
      obtain ⟨pt, hpt, t, rfl, ht⟩ := hea.2 i x hx
      refine ⟨rfl, .ref t, rfl, t, _, 0, .str pt.1, rfl, rfl, .inr (Same.sqt (s2.trans p.sm) ht), at0, ?_⟩
      refine p.put nN (Same.refl _) ?_ ?_
      · show sV _ = sV _ ++ [_]
        rw [List.take_add_one, hpt]
        simp [sV]
      · rw [sizeLine_eq]
        simp [sV]
        omega
    have hN : H3 N = some (.lst (sV (ps.map (·.1)))) := by rw [p.at_, ela, List.take_length]
    have s3 := s2.trans p.sm
    -- gates
    refine ⟨.ref b, rfl, .ref N, rfl, ⟨b, N, ys, gs, ps.map (·.1), rfl, Same.sq s3 hb, heb.imp fun _ _ r => GateAt.kt (Same.kt s3) r, .inl (.of hN), by simp; omega, ok.gates, fun H4 s4 => ⟨true, rfl, iteF ?_⟩⟩⟩
    have s4' := s3.trans s4
    have hN4 := s4 _ _ hN
    obtain ⟨db, hdb⟩ := (Same.sq s4' hb).b
    -- causes
    refine ⟨.ref c, rfl, .ref N, rfl, .ref N, rfl, .ref b, rfl, b, db, rfl, ⟨_, hdb⟩, fun M nM => ?_⟩
    refine lc_it (walk_sq (xs := ys)) (LP H4 M fun i => sV ((gs.take i).map G.name)) (LP.zero nM rfl) (fun _ _ _ p => Same.sqb p.sm hdb) (fun i x H5 H6 hi p y => ?_) (fun H5 p5 => ?_)
    · obtain ⟨rfl, hx⟩ := y
      obtain ⟨g, hg, r⟩ := heb.2 i x hx
      obtain ⟨t, rest, rfl, ht, _⟩ := (GateAt.kt (Same.kt (s4'.trans p.sm)) r).cut
      refine ⟨rfl, .ref t, rfl, t, _, 0, .str g.name, rfl, rfl, .inr ht, at0, ?_⟩
      refine p.put nM (Same.refl _) ?_ ?_
      · show sV _ = sV _ ++ [_]
        rw [List.take_add_one, hg]
        simp [sV]
      · rw [sizeLine_eq]
        simp [sV]
        omega
    have hM : H5 M = some (.lst (sV (gs.map G.name))) := by rw [p5.at_, elb, List.take_length]
    refine ⟨N, M, _, _, rfl, rfl, p5.sm _ _ hN4, hM, by rw [sizeLine_eq]; simp [sV]; omega, fun W nW => ?_⟩
    have s6 : Same H5 (upd H5 W (.lst (sV (ps.map (·.1)) ++ sV (gs.map G.name)))) := Same.new nW
    have s6' := (s4'.trans p5.sm).trans s6
    have eW : sV (ps.map (·.1)) ++ sV (gs.map G.name) = sV (ps.map (·.1) ++ gs.map G.name) := by simp [sV]
    refine ⟨c, N, W, zs, cs, ps.map (·.1), ps.map (·.1) ++ gs.map G.name, rfl, Same.sq s6' hc, hec.imp fun _ _ r => CauseAt.kt (Same.kt s6') r, .inl (.of (s6 _ _ (p5.sm _ _ hN4))), .inl (.of (by rw [upd_same, eW])), ok.causes, fun H7 s7 => ⟨true, rfl, iteF ?_⟩⟩
    have s7' := s6'.trans s7
    -- top
    refine ⟨.str tp, rfl, .ref a, rfl, .ref b, rfl, ⟨tp, a, xs, ps, b, ys, gs, rfl, Same.sq s7' ha, hea.imp fun _ _ r => PartAt.kt (Same.kt s7') r, Same.sq s7' hb, heb.imp fun _ _ r => GateAt.kt (Same.kt s7') r, ok.top, hT.ext s7', fun H8 sm8 => ⟨true, rfl, iteF ?_⟩⟩⟩
    have sm8' : Sm T0 H H8 := (Same.sm s7').trans sm8
    have hx8 := sm8'.lst hx (by intro _ z; cases z)
    -- the fields
    refine ⟨.ref a, rfl, a, xs, rfl, sm8'.sq ha, fun pa H9 s9 hpa => ?_⟩
    have hx9 := s9 _ _ hx8
    refine ⟨.ref x, rfl, x, C, dx, _, rfl, hx9, L.cl, L.nP, by show 0 < 1000; decide, ?_⟩
    have x9 : SmX x T0 H9 _ := SmX.at (o' := .ins C dx (putF "_parts" (.ref pa) [])) hx9 (by intro _ z; cases z) (by intro _ z; cases z)
    have y9 := ((sm8'.x (x := x)).trans (Same.sm s9).x).trans x9
    refine ⟨.ref b, rfl, b, ys, rfl, y9.sq hx hb, fun ga H10 s10 hga => ?_⟩
    have hx10 := s10 _ _ (upd_same (H := H9) (a := x) (o := .ins C dx (putF "_parts" (.ref pa) [])))
    refine ⟨.ref x, rfl, x, C, dx, _, rfl, hx10, L.cl, L.nG, by show 1 < 1000; decide, ?_⟩
    have x10 : SmX x T0 H10 _ := SmX.at (o' := .ins C dx (putF "_gates" (.ref ga) (putF "_parts" (.ref pa) []))) hx10 (by intro _ z; cases z) (by intro _ z; cases z)
    have y10 := (y9.trans (Same.sm s10).x).trans x10
    refine ⟨.ref c, rfl, c, zs, rfl, y10.sq hx hc, fun ca H11 s11 hca => ?_⟩
    have hx11 := s11 _ _ (upd_same (H := H10) (a := x) (o := .ins C dx (putF "_gates" (.ref ga) (putF "_parts" (.ref pa) []))))
    refine ⟨.ref x, rfl, x, C, dx, _, rfl, hx11, L.cl, L.nC, by rw [show putF "_parts" (.ref pa) [] = [(("_parts" : Str), V.ref pa)] from rfl, putF_ne f_pg]; show 2 < 1000; decide, ?_⟩
    have x11 : SmX x T0 H11 _ := SmX.at (o' := .ins C dx (putF "_causes" (.ref ca) (putF "_gates" (.ref ga) (putF "_parts" (.ref pa) [])))) hx11 (by intro _ z; cases z) (by intro _ z; cases z)
    have y11 := (y10.trans (Same.sm s11).x).trans x11
    have hx12 := upd_same (H := H11) (a := x) (o := .ins C dx (putF "_causes" (.ref ca) (putF "_gates" (.ref ga) (putF "_parts" (.ref pa) []))))
    refine ⟨.str tp, rfl, .ref x, rfl, x, C, dx, _, rfl, hx12, L.cl, L.nT, by rw [show putF "_parts" (.ref pa) [] = [(("_parts" : Str), V.ref pa)] from rfl, putF_ne f_pg, show putF "_gates" (V.ref ga) [] = [(("_gates" : Str), V.ref ga)] from rfl, putF_ne f_pc, putF_ne f_gc]; show 3 < 1000; decide, ?_⟩
    have x12 : SmX x T0 _ _ := SmX.at (o' := .ins C dx (putF "_top" (.str tp) (putF "_causes" (.ref ca) (putF "_gates" (.ref ga) (putF "_parts" (.ref pa) []))))) hx12 (by intro _ z; cases z) (by intro _ z; cases z)
    have t12 := x12.sqt (K := K) (xs := zs) hx12 (x11.sqt hx11 hca)
    have t11 := x12.sqt (K := K) (xs := ys) hx12 (x11.sqt hx11 (Same.sqt s11 (x10.sqt hx10 hga)))
    have t10 := x12.sqt (K := K) (xs := xs) hx12 (x11.sqt hx11 (Same.sqt s11 (x10.sqt hx10 (Same.sqt s10 (x9.sqt hx9 hpa)))))
    exact q _ pa ga ca (y11.trans x12) (by rw [upd_same, plF_eq]) t10 t11 t12
end
end Kf

set_option Elab.async false
set_option linter.all false
set_option maxRecDepth 100000
set_option maxHeartbeats 2000000
namespace Kf
open PySem PySem.Spec PyProof.Rows PySem.W
/-! ## a == b, a != b where a is an instance of a class that says __eq__ alone -/
section
variable {prog : Program} {w : World} {M : Model} {A : Around} {E : Value → Shared → Prop} {s : Shared} {K : Frag} {x C f L : Addr} {ox : Obj} {od : Option Obj} {b tb : Value} {h₀ : Heap} {m : Str → Option Value}
theorem ifBoundB {name : Str} {id : String} {args : List Value} {Q : Option Value → Shared → Prop} (X : K.In s.heap) (I : InstAt s.heap x ox C od) (hs : findIn K (.ref C) name = some (some (.builtin id))) (hb : ∀ self, bindSpecial (.builtin id) self = pure (.builtin id, [self]))
    (h : wpAny M A (call (.builtin id) (.ref x :: args)) (fun v => Q (some v)) E s) : wpAny M A (callSpecialIfBound? (.ref x) name args) Q E s := by
  simp only [callSpecialIfBound?, bindSpecialIfBound?]
  refine wpAny_holding (wpAny_bind (wpAny_bind (wpAny_bind (I.type.here ((looks_findIn X hs).here ?_)))))
  refine wpAny_bind (wpAny_askSetting (wpAny_ite ?_))
  have fin : wpAny M A (call (.builtin id) ([.ref x] ++ args) >>= fun v => pure (some v)) Q E s := wpAny_bind (wpAny_mono h (fun v s' h' => wpAny_pure h') fun _ _ h' => h')
  split
  · exact wpAny_bind ((Looks.of_pure (hb _)).here (wpAny_pure (by exact fin)))
  · exact wpAny_tryCatch (wpAny_bind ((Looks.of_pure (hb _)).here (wpAny_pure (by exact fin))))
open Builtin in
theorem call_ne {Q : Value → Shared → Prop} (hu : A.in1.units < cLine) (X : K.In s.heap) (I : InstAt s.heap x ox C od) (hm : mroIn K C (.type "object") = some true) (hr : findIn K (.ref C) "__eq__" = some (some (.ref f))) (hf : isFn K (.ref f) = true)
    (h : wpAny (model prog w) A.in1 (call (.ref f) [.ref x, b]) (fun v s' => ∃ r, v = .bool r ∧ Q (.bool (!r)) s') E s) : wpAny (model prog w) A (call (.builtin "object.__ne__") [.ref x, b]) Q E s := by
  refine wpAny_call (codeAny_call_builtin PySem.F.cmp_object.ne.plain PySem.F.cmpEntry_ne (check_slot (i := "object.__ne__") (owner := "object") (n := "__ne__") PySem.F.cmpKind_ne PySem.F.cmpSplit_ne (I.type.andThen (looks_mroIn X hm)) (PySem.F.cmpArgs_ne _ _) ?_))
  unfold Builtin.«object.__ne__»
  refine wpAny_bind (m := slotArgs "__ne__" 1 _) (wpAny_pure ?_)
  refine wpAny_bind (m := cRoomFor _ _) (wpAny_cRoomFor hu ?_)
  refine wpAny_bind (m := callSpecialIfBound? (.ref x) (Str.ofString "__eq__") _) (ifBound_K X I hr hf (wpAny_mono h (fun r s' hq => ?_) fun _ _ y => y))
  obtain ⟨b, rfl, hq⟩ := hq
  exact wpAny_bind (m := truthy (.bool b)) (wpAny_truthy_bool (wpAny_pure hq))
theorem cmp_neK {Q : Value → Shared → Prop} (hu : A.units < cLine) (hu1 : A.in1.units < cLine) (F : Fr h₀ L s.heap m) (X₀ : K.In h₀) (I : InstAt s.heap x ox C od) (hb : Looks (model prog w) s.heap (typeOf b) tb) (hn : notFirst K C tb = true)
    (hs : findIn K (.ref C) "__ne__" = some (some (.builtin "object.__ne__"))) (hm : mroIn K C (.type "object") = some true) (he : findIn K (.ref C) "__eq__" = some (some (.ref f))) (hf : isFn K (.ref f) = true)
    (h : wpAny (model prog w) A.in1 (call (.ref f) [.ref x, b]) (fun v s' => ∃ r, v = .bool r ∧ Q (.bool (!r)) s') E s) : wpAny (model prog w) A (richCompare .NotEq (.ref x) b) Q E s := by
  have X := X₀.keeps F.keep
  have one : wpAny (model prog w) A (tryCompare (.ref x) (cmpInfo .NotEq).2.1 b) (fun r s' => ∃ v, r = some v ∧ Q v s') E s := by
    unfold tryCompare
    refine wpAny_bind (ifBoundB X I hs PySem.F.cmp_object.ne.bind (call_ne hu1 X I hm he hf (wpAny_mono h (fun v s' hv => ?_) fun _ _ e => e)))
    obtain ⟨r, rfl, hq⟩ := hv
    exact ⟨r, rfl, wpAny_pure ⟨_, rfl, hq⟩⟩
  unfold richCompare
  simp only [oneThing_ref]
  refine wpAny_holding (wpAny_bind (wpAny_cRoomFor hu ?_))
  refine wpAny_bind (I.type.here (wpAny_bind (hb.here ?_)))
  split
  · rename_i q
    have e : subIn K tb (.ref C) = some false := by
      rcases Bool.or_eq_true_iff.mp hn with e | e
      · rw [beq_iff_eq.mp e] at q; simp at q
      · exact beq_iff_eq.mp e
    refine wpAny_bind ((looks_subIn X e).here ?_)
    simp only [Bool.false_eq_true, if_false]
    refine wpAny_bind (wpAny_mono one (fun r s' z => ?_) fun _ _ e => e)
    obtain ⟨v, rfl, hq⟩ := z
    exact wpAny_pure hq
  · refine wpAny_bind (wpAny_pure ?_)
    simp only [Bool.false_eq_true, if_false]
    refine wpAny_bind (wpAny_mono one (fun r s' z => ?_) fun _ _ e => e)
    obtain ⟨v, rfl, hq⟩ := z
    exact wpAny_pure hq
end
end Kf
namespace Kf
open PySem PySem.Spec PyProof.Rows L2
structure OwnCmp (K : PySem.W.Frag) (C f : Addr) : Prop where
  he : PySem.W.findIn K (.ref C) "__eq__" = some (some (.ref f))
  hf : PySem.W.isFn K (.ref f) = true
  hs : PySem.W.findIn K (.ref C) "__ne__" = some (some (.builtin "object.__ne__"))
  hm : PySem.W.mroIn K C (.type "object") = some true
def rCmpI (K : PySem.W.Frag) (C : Addr) (sp : Sp) (neg : Bool) : R2 := fun x y H Q => ∃ a dx fs t, x = .ref a ∧ H a = some (.ins C dx fs) ∧ TyX K H y t ∧ PySem.W.notFirst K C t = true ∧ sp [x, y] H (fun z H' => ∃ b, z = .bl b ∧ Q (.bl (if neg then !b else b)) H') E0
section
variable {X : Cx} {K : PySem.W.Frag} {C f : Addr} {fd : FuncData} {ps : List Str} {sp : Sp} {k : Nat}
theorem run_in {pins : List (Addr × Obj)} {σ : L2.St} {H : Hp} {s : Shared} {Q : VK} {us : List Value} {vs : List V} {A : Around} (F : FnOk X.prog X.w X.K X.mg X.base CX0 k f fd ps sp) (hr : Room k A) (hb : Binds X.K fd ps []) (hA : A.frames = some X.stack) {EE : Value → Shared → Prop}
    (I : Inv X pins σ H s) (r : Vals vs us) (h : sp vs H Q E0) : wpAny (model X.prog X.w) A (call (.ref f) us) (EP X pins σ Q) EE s := by
  have hl : us.length = ps.length := by rw [← r.length]; exact F.len _ _ _ _ h
  have e0 : Env0 X.prog X.w X.K X.mg X.base A X.stack s H := by
    have e := I.env0
    exact ⟨hA, e.mod, e.bs, e.bsz, e.funs, e.frf, e.hok, e.bare⟩
  have hb := hb s us I.kIn (by simpa using hl)
  rw [List.append_nil] at hb
  refine wpAny_call (codeAny_mono (F.run A X.stack s H ⟨us, []⟩ us vs Q E0 hr e0 hb r h) fun r s' hq => ?_)
  cases r with
  | error e => exact (show False from hq).elim
  | ok fl =>
    cases fl with
    | ret u => exact I.after hq
    | next => exact False.elim hq
    | brk => exact False.elim hq
    | cont => exact False.elim hq
theorem op_eqI (hK : X.K = K) (O : OwnCmp K C f) (F : FnOk X.prog X.w X.K X.mg X.base CX0 k f fd ps sp) (hb : Binds X.K fd ps []) (hr : Room k X.A) : OpR X (compareOp .Eq) (rCmpI K C sp false) := by
  subst hK
  intro pins s σ H x y v u Q I rx ry h
  obtain ⟨a, dx, fs, t, rfl, ha, ty, hn, q⟩ := h
  cases (show v = Value.ref a from rx)
  obtain ⟨mA, J, _⟩ := ins_get I.hok ha
  obtain ⟨od, J, _⟩ := J.look
  obtain ⟨m, hF⟩ := I.fr
  obtain ⟨P, Z, p, _⟩ := kit_of I ry ty
  show wpAny _ _ (richCompare .Eq (.ref a) u) _ _ s
  refine PySem.W.cmp_K (op := .Eq) (tb := t) hr.units0 hF I.ok.mod.kin J (Z.ty _ _ I.kIn p) hn O.he O.hf ?_
  refine wpAny_mono (run_in (us := [.ref a, u]) (vs := [.ref a, y]) F hr hb I.ok.frames I (.cons rfl (.cons ry .nil)) q) (fun w' s' z => ?_) fun _ _ x => x
  obtain ⟨z', H', I', rz, b, ez, qz⟩ := z
  subst ez
  cases (show w' = Value.bool b from rz)
  exact ⟨.bl b, H', I', rfl, qz⟩
theorem op_neI (hK : X.K = K) (O : OwnCmp K C f) (F : FnOk X.prog X.w X.K X.mg X.base CX0 k f fd ps sp) (hb : Binds X.K fd ps []) (hr : Room (k + 2) X.A) : OpR X (compareOp .NotEq) (rCmpI K C sp true) := by
  subst hK
  intro pins s σ H x y v u Q I rx ry h
  obtain ⟨a, dx, fs, t, rfl, ha, ty, hn, q⟩ := h
  cases (show v = Value.ref a from rx)
  obtain ⟨mA, J, _⟩ := ins_get I.hok ha
  obtain ⟨od, J, _⟩ := J.look
  obtain ⟨m, hF⟩ := I.fr
  obtain ⟨P, Z, p, _⟩ := kit_of I ry ty
  show wpAny _ _ (richCompare .NotEq (.ref a) u) _ _ s
  have hr1 : Room (k + 1) X.A.in1 := Room.in1 hr
  refine cmp_neK (tb := t) hr.units0 hr1.units0 hF I.ok.mod.kin J (Z.ty _ _ I.kIn p) hn O.hs O.hm O.he O.hf ?_
  refine wpAny_mono (run_in (us := [.ref a, u]) (vs := [.ref a, y]) F (hr1.mono (Nat.le_succ _)) hb I.ok.frames I (.cons rfl (.cons ry .nil)) q) (fun w' s' z => ?_) fun _ _ x => x
  obtain ⟨z', H', I', rz, b, ez, qz⟩ := z
  subst ez
  cases (show w' = Value.bool b from rz)
  exact ⟨b, rfl, .bl (!b), H', I', rfl, qz⟩
end
end Kf

set_option Elab.async false
set_option linter.all false
set_option maxRecDepth 100000
set_option maxHeartbeats 2000000
namespace Kf
open PySem PySem.Spec PyProof.Rows L2 LamX NdefX
/-! ## plants as data -/
def strsD (l : List Str) : PyData := .tuple (l.map PyData.str)
def partD (p : Str × Str) : PyData := .tuple [.str p.1, .str p.2]
def causeD (c : Str × List Str) : PyData := .tuple [.str c.1, strsD c.2]
def gateD : G → PyData
  | .all n ins => .tuple [.str n, .str "all", strsD ins]
  | .any n ins => .tuple [.str n, .str "any", strsD ins]
  | .least n m ins => .tuple [.str n, .str "least", .int m, strsD ins]
  | .before n x y => .tuple [.str n, .str "before", .str x, .str y]
  | .spare n ps => .tuple [.str n, .str "spare", strsD ps]
def partsD (ps : List (Str × Str)) : PyData := .tuple (ps.map partD)
def gatesD (gs : List G) : PyData := .tuple (gs.map gateD)
def causesD (cs : List (Str × List Str)) : PyData := .tuple (cs.map causeD)
section
variable {K : PySem.W.Frag} {H : Hp}
theorem dpAll_strs : ∀ l : List Str, DpAll K H (sV l) (l.map PyData.str)
  | [] => .nil
  | x :: r => .cons (.str x) (dpAll_strs r)
theorem dp_strs {a : Addr} {l : List Str} (h : SqT K H a (sV l)) : Dp K H (.ref a) (strsD l) := .tup h (dpAll_strs l)
theorem PartAt.dp {v : V} {p : Str × Str} (h : PartAt K H v p) : Dp K H v (partD p) := by
  obtain ⟨a, rfl, h⟩ := h
  exact .tup h (.cons (.str _) (.cons (.str _) .nil))
theorem CauseAt.dp {v : V} {c : Str × List Str} (h : CauseAt K H v c) : Dp K H v (causeD c) := by
  obtain ⟨a, b, rfl, h, h2⟩ := h
  exact .tup h (.cons (.str _) (.cons (dp_strs h2) .nil))
theorem GateAt.dp {v : V} {g : G} (h : GateAt K H v g) : Dp K H v (gateD g) := by
  cases g with
  | all n ins =>
    obtain ⟨a, b, rfl, h, h2⟩ := h
    exact .tup h (.cons (.str _) (.cons (.str _) (.cons (dp_strs h2) .nil)))
  | any n ins =>
    obtain ⟨a, b, rfl, h, h2⟩ := h
    exact .tup h (.cons (.str _) (.cons (.str _) (.cons (dp_strs h2) .nil)))
  | least n m ins =>
    obtain ⟨a, b, rfl, h, h2⟩ := h
    exact .tup h (.cons (.str _) (.cons (.str _) (.cons (.int _) (.cons (dp_strs h2) .nil))))
  | before n x y =>
    obtain ⟨a, rfl, h⟩ := h
    exact .tup h (.cons (.str _) (.cons (.str _) (.cons (.str _) (.cons (.str _) .nil))))
  | spare n ps =>
    obtain ⟨a, b, rfl, h, h2⟩ := h
    exact .tup h (.cons (.str _) (.cons (.str _) (.cons (dp_strs h2) .nil)))
theorem each_dp {α : Type} {R : V → α → Prop} {D : α → PyData} (hR : ∀ v p, R v p → Dp K H v (D p)) : ∀ {xs : List V} {l : List α}, Each R xs l → DpAll K H xs (l.map D)
  | [], [], _ => .nil
  | [], p :: r, h => by cases h.1
  | x :: xs, [], h => by cases h.1
  | x :: xs, p :: r, h => by
    refine .cons ?_ (each_dp hR ⟨Nat.succ.inj h.1, fun i y hy => ?_⟩)
    · obtain ⟨q, hq, rq⟩ := h.2 0 x rfl
      cases hq
      exact hR _ _ rq
    · exact h.2 (i + 1) y hy
theorem dp_parts {a : Addr} {xs : List V} {ps : List (Str × Str)} (h : SqT K H a xs) (e : Each (PartAt K H) xs ps) : Dp K H (.ref a) (partsD ps) := .tup h (each_dp (fun _ _ r => PartAt.dp r) e)
theorem dp_gates {a : Addr} {xs : List V} {gs : List G} (h : SqT K H a xs) (e : Each (GateAt K H) xs gs) : Dp K H (.ref a) (gatesD gs) := .tup h (each_dp (fun _ _ r => GateAt.dp r) e)
theorem dp_causes {a : Addr} {xs : List V} {cs : List (Str × List Str)} (h : SqT K H a xs) (e : Each (CauseAt K H) xs cs) : Dp K H (.ref a) (causesD cs) := .tup h (each_dp (fun _ _ r => CauseAt.dp r) e)
end
/-! ### their shape -/
theorem canAll_map {α : Type} {D : α → PyData} : ∀ {l : List α}, (∀ x ∈ l, (D x).canLay0 = true) → PyData.canLayAll0 (l.map D) = true
  | [], _ => by simp [PyData.canLayAll0]
  | x :: r, h => by
    simp only [List.map_cons, PyData.canLayAll0, Bool.and_eq_true]
    exact ⟨h x (List.mem_cons_self ..), canAll_map fun y hy => h y (List.mem_cons_of_mem _ hy)⟩
theorem depthAll_map {α : Type} {D : α → PyData} {n : Nat} : ∀ {l : List α}, (∀ x ∈ l, (D x).depth ≤ n) → PyData.depthAll (l.map D) ≤ n
  | [], _ => by simp [PyData.depthAll]
  | x :: r, h => by
    simp only [List.map_cons, PyData.depthAll]
    have h1 := h x (List.mem_cons_self ..)
    have h2 := depthAll_map (D := D) (n := n) (l := r) fun y hy => h y (List.mem_cons_of_mem _ hy)
    omega
abbrev StrOk (x : Str) : Prop := PyData.strOk x = true
theorem NameOk.str {z : Str} (h : NameOk z) : StrOk z := by
  show z.cps.all (· < 0x110000) = true
  rw [Array.all_eq_true_iff_forall_mem]
  intro c hc
  have := h.low c (Array.mem_toList_iff.mpr hc)
  exact decide_eq_true (by omega)
structure ShOk (n : Nat) (d : PyData) : Prop where
  can : d.canLay0 = true
  dep : d.depth ≤ n
theorem ShOk.shaped {n : Nat} {d : PyData} (h : ShOk n d) (hn : n ≤ 64) : SeqAt.shaped d = true := by
  show (d.canLay0 && decide (d.depth ≤ 64)) = true
  rw [h.can, decide_eq_true (Nat.le_trans h.dep hn)]
  rfl
theorem sh_str {z : Str} (h : StrOk z) : ShOk 0 (.str z) := ⟨h, by simp [PyData.depth]⟩
theorem sh_int (i : Int) : ShOk 0 (.int i) := ⟨by simp [PyData.canLay0], by simp [PyData.depth]⟩
theorem ShOk.up {n m : Nat} {d : PyData} (h : ShOk n d) (hm : n ≤ m) : ShOk m d := ⟨h.can, Nat.le_trans h.dep hm⟩
theorem sh_map {α : Type} {D : α → PyData} {n : Nat} {l : List α} (h : ∀ x ∈ l, ShOk n (D x)) : ShOk (n + 1) (.tuple (l.map D)) :=
  ⟨by simp only [PyData.canLay0]; exact canAll_map fun x hx => (h x hx).can, by simp only [PyData.depth]; have := depthAll_map (D := D) (n := n) fun x hx => (h x hx).dep; omega⟩
theorem sh_tup {n : Nat} {ds : List PyData} (h : ∀ d ∈ ds, ShOk n d) : ShOk (n + 1) (.tuple ds) := by
  have e : ds = ds.map id := by simp
  rw [e]
  exact sh_map h
theorem sh_strs {l : List Str} (h : ∀ x ∈ l, StrOk x) : ShOk 1 (strsD l) := sh_map fun x hx => sh_str (h x hx)
theorem w_all : StrOk "all" := by decide +kernel
theorem w_any : StrOk "any" := by decide +kernel
theorem w_least : StrOk "least" := by decide +kernel
theorem w_before : StrOk "before" := by decide +kernel
theorem w_spare : StrOk "spare" := by decide +kernel
theorem w_hot : StrOk "hot" := by decide +kernel
theorem w_cold : StrOk "cold" := by decide +kernel
theorem PartOk.sh {p : Str × Str} (h : PartOk p) : ShOk 1 (partD p) := sh_tup fun d hd => by
  rcases List.mem_cons.mp hd with e | hd
  · rw [e]; exact sh_str h.name.str
  · rw [List.mem_singleton.mp hd]
    refine sh_str ?_
    rcases List.mem_cons.mp h.kind with e | hk
    · rw [e]; exact w_hot
    · rw [List.mem_singleton.mp hk]; exact w_cold
theorem PartsOk.sh {ps : List (Str × Str)} (h : PartsOk ps) : ShOk 2 (partsD ps) := sh_map fun p hp => (h.each p hp).sh
theorem PartsOk.names {ps : List (Str × Str)} (h : PartsOk ps) : ∀ x ∈ ps.map (·.1), StrOk x := fun x hx => by
  obtain ⟨p, hp, rfl⟩ := List.mem_map.mp hx
  exact (h.each p hp).name.str
theorem sh4 {n : Nat} {a b c d : PyData} (h1 : ShOk n a) (h2 : ShOk n b) (h3 : ShOk n c) (h4 : ShOk n d) : ShOk (n + 1) (.tuple [a, b, c, d]) := sh_tup fun x hx => by
  simp only [List.mem_cons, List.not_mem_nil, or_false] at hx
  rcases hx with rfl | rfl | rfl | rfl <;> assumption
theorem sh3 {n : Nat} {a b c : PyData} (h1 : ShOk n a) (h2 : ShOk n b) (h3 : ShOk n c) : ShOk (n + 1) (.tuple [a, b, c]) := sh_tup fun x hx => by
  simp only [List.mem_cons, List.not_mem_nil, or_false] at hx
  rcases hx with rfl | rfl | rfl <;> assumption
theorem sh2 {n : Nat} {a b : PyData} (h1 : ShOk n a) (h2 : ShOk n b) : ShOk (n + 1) (.tuple [a, b]) := sh_tup fun x hx => by
  simp only [List.mem_cons, List.not_mem_nil, or_false] at hx
  rcases hx with rfl | rfl <;> assumption
theorem ChoiceOk.sh {l names : List Str} (h : ChoiceOk l names) (hn : ∀ x ∈ names, StrOk x) : ShOk 1 (strsD l) := sh_strs fun x hx => hn x (h.sub x hx)
theorem GateOk.sh {parts names : List Str} {g : G} (h : GateOk parts names g) (hp : ∀ x ∈ parts, StrOk x) (hn : ∀ x ∈ names, StrOk x) : ShOk 2 (gateD g) := by
  have nm := (sh_str h.name.str).up (Nat.zero_le 1)
  have ins := h.ins
  cases g with
  | all n l => exact sh3 nm ((sh_str w_all).up (Nat.zero_le 1)) (ChoiceOk.sh ins hn)
  | any n l => exact sh3 nm ((sh_str w_any).up (Nat.zero_le 1)) (ChoiceOk.sh ins hn)
  | least n m l => exact sh4 nm ((sh_str w_least).up (Nat.zero_le 1)) ((sh_int m).up (Nat.zero_le 1)) (ChoiceOk.sh ins.1 hn)
  | before n x y => exact (sh4 nm ((sh_str w_before).up (Nat.zero_le 1)) ((sh_str (hn x (ins.sub x (by simp)))).up (Nat.zero_le 1)) ((sh_str (hn y (ins.sub y (by simp)))).up (Nat.zero_le 1)))
  | spare n l => exact sh3 nm ((sh_str w_spare).up (Nat.zero_le 1)) (ChoiceOk.sh ins hp)
theorem GatesOk.names {parts : List Str} {gs : List G} (h : GatesOk parts gs) : ∀ x ∈ gs.map G.name, StrOk x := fun x hx => by
  obtain ⟨g, hg, rfl⟩ := List.mem_map.mp hx
  obtain ⟨i, hi⟩ := List.mem_iff_getElem?.mp hg
  exact (h.each i g hi).name.str
theorem GatesOk.sh {parts : List Str} {gs : List G} (h : GatesOk parts gs) (hp : ∀ x ∈ parts, StrOk x) : ShOk 3 (gatesD gs) := sh_map fun g hg => by
  obtain ⟨i, hi⟩ := List.mem_iff_getElem?.mp hg
  refine (h.each i g hi).sh hp fun x hx => ?_
  rcases List.mem_append.mp hx with hx | hx
  · exact hp x hx
  · refine h.names x ?_
    obtain ⟨g', hg', rfl⟩ := List.mem_map.mp hx
    exact List.mem_map.mpr ⟨g', List.mem_of_mem_take hg', rfl⟩
theorem CausesOk.sh {parts names : List Str} {cs : List (Str × List Str)} (h : CausesOk parts names cs) (hp : ∀ x ∈ parts, StrOk x) (hn : ∀ x ∈ names, StrOk x) : ShOk 3 (causesD cs) := sh_map fun c hc => sh2 ((sh_str (hn _ (h.each c hc).trig)).up (Nat.zero_le 1)) ((h.each c hc).ch.sh hp)
end Kf

set_option Elab.async false
set_option linter.all false
set_option maxRecDepth 100000
set_option maxHeartbeats 2000000
namespace Kf
open PySem PySem.Spec PyProof.Rows L2 LamX NdefX
theorem lk_ne {a b : Str} {v : V} {r : List (Str × V)} (h : ¬ b = a) : List.lookup a ((b, v) :: r) = List.lookup a r := by
  rw [List.lookup_cons, beq_false_of_ne fun e => h e.symm]
theorem lk_eq {a : Str} {v : V} {r : List (Str × V)} : List.lookup a ((a, v) :: r) = some v := by
  rw [List.lookup_cons, beq_self_eq_true]
section
variable {p g c t : V}
theorem plF_p : (plF p g c t).lookup ("_parts" : Str) = some p := lk_eq
theorem plF_g : (plF p g c t).lookup ("_gates" : Str) = some g := (lk_ne f_pg).trans lk_eq
theorem plF_c : (plF p g c t).lookup ("_causes" : Str) = some c := (lk_ne f_pc).trans ((lk_ne f_gc).trans lk_eq)
theorem plF_t : (plF p g c t).lookup ("_top" : Str) = some t := (lk_ne f_pt).trans ((lk_ne f_gt).trans ((lk_ne f_ct).trans lk_eq))
end
/-- a plant object -/
structure PlObj (K : PySem.W.Frag) (C : Addr) (H : Hp) (a : Addr) (ps : List (Str × Str)) (gs : List G) (cs : List (Str × List Str)) (tp : Str) : Prop where
  ex : ∃ dx pa ga ca xs ys zs, H a = some (.ins C dx (plF (.ref pa) (.ref ga) (.ref ca) (.str tp))) ∧ SqT K H pa xs ∧ Each (PartAt K H) xs ps ∧ SqT K H ga ys ∧ Each (GateAt K H) ys gs ∧ SqT K H ca zs ∧ Each (CauseAt K H) zs cs
theorem PlObj.kt {K : PySem.W.Frag} {C : Addr} {H H' : Hp} {a : Addr} {ps : List (Str × Str)} {gs : List G} {cs : List (Str × List Str)} {tp : Str} (h : PlObj K C H a ps gs cs tp) (k : KT K H H') (hi : ∀ C dx fs, H a = some (.ins C dx fs) → H' a = some (.ins C dx fs)) : PlObj K C H' a ps gs cs tp := by
  obtain ⟨dx, pa, ga, ca, xs, ys, zs, h0, h1, e1, h2, e2, h3, e3⟩ := h.ex
  exact ⟨dx, pa, ga, ca, xs, ys, zs, hi _ _ _ h0, k _ _ h1, e1.imp fun _ _ r => PartAt.kt k r, k _ _ h2, e2.imp fun _ _ r => GateAt.kt k r, k _ _ h3, e3.imp fun _ _ r => CauseAt.kt k r⟩
structure Shapes (ps : List (Str × Str)) (gs : List G) (cs : List (Str × List Str)) (tp : Str) : Prop where
  p : ShOk 2 (partsD ps)
  g : ShOk 3 (gatesD gs)
  c : ShOk 3 (causesD cs)
  t : StrOk tp
theorem PlantOk.shapes {ps : List (Str × Str)} {gs : List G} {cs : List (Str × List Str)} {tp : Str} (h : PlantOk ps gs cs tp) : Shapes ps gs cs tp :=
  ⟨h.parts.sh, h.gates.sh h.parts.names, h.causes.sh h.parts.names (fun x hx => (List.mem_append.mp hx).elim (h.parts.names x) (h.gates.names x)), h.gates.names _ h.top.mem⟩
/-- the class, more of it -/
structure PlK (K : PySem.W.Frag) (C : Addr) : Prop where
  ha : PySem.W.findIn K (.ref C) "__class__" = some (some (.builtin "object.__class__"))
  hn : PySem.W.specialIn K (.builtin "object.__class__") "__get__" = some (some (.builtin "getset_descriptor.__get__"))
  ht : PySem.W.takesIn K (.builtin "object.__class__") = some true
  hm : PySem.W.mroIn K C (.type "object") = some true
theorem kit_self {K : PySem.W.Frag} {t : Value} : PySem.W.kitOne K t t = some true := by
  unfold PySem.W.kitOne
  rw [if_pos (by simp)]
def eqPl (ps : List (Str × Str)) (gs : List G) (cs : List (Str × List Str)) (tp : Str) (ps' : List (Str × Str)) (gs' : List G) (cs' : List (Str × List Str)) (tp' : Str) : Bool :=
  PyData.eqv (partsD ps) (partsD ps') && (PyData.eqv (gatesD gs) (gatesD gs') && (PyData.eqv (causesD cs) (causesD cs') && PyData.eqv (.str tp) (.str tp')))
section
variable {P : Program} {w : World} {K : PySem.W.Frag} {mg : Str → Option Value} {base : Heap}
def spEqP (K : PySem.W.Frag) (C : Addr) : Sp := fun vs H Q _ => ∃ a y ps gs cs tp, vs = [.ref a, y] ∧ PlObj K C H a ps gs cs tp ∧ Shapes ps gs cs tp ∧
  ((∃ b ps' gs' cs' tp', y = .ref b ∧ PlObj K C H b ps' gs' cs' tp' ∧ Shapes ps' gs' cs' tp' ∧ Q (.bl (eqPl ps gs cs tp ps' gs' cs' tp')) H) ∨ ∃ t, TyX K H y t ∧ PySem.W.kitOne K t (.ref C) = some false ∧ Q (.bl false) H)
theorem ok_eq {f C : Addr} {fd : FuncData} {k : Nat} (F : L2.Fun K "__eq__" "Plant.__eq__" s_Plant___eq__ f fd) (T : Nm mg) (L : PlC K mg C) (Lk : PlK K C) : FnOk P w K mg base CX0 (k + 1) f fd ["self", "other"] (spEqP K C) := by
  refine F.ok sc_Plant___eq__ (fun vs H Q E h => ?_) (fun cdv A outer s H vs Q E hr h => ?_)
  · obtain ⟨a, y, ps, gs, cs, tp, rfl, _⟩ := h
    rfl
  · obtain ⟨a, y, ps, gs, cs, tp, rfl, ho, sh, h⟩ := h
    have hu64 := hr.units
    refine ⟨_, (pss_one (ps_ret (pe_and (pe_callB call_isi (by rfl) T.n_isinstance (by decide +kernel) (pa_cons (pv 1) (pa_cons (pe_glob (v := .ref C) (by rfl) L.mgC rfl) pa_nil))) (pe_and (pe_cmpR (op_eqD hu64) (pe_fld (pv 0) rfl) (pe_fld (pv 1) rfl) (nomark _)) (pe_and (pe_cmpR (op_eqD hu64) (pe_fld (pv 0) rfl) (pe_fld (pv 1) rfl) (nomark _)) (pe_and (pe_cmpR (op_eqD hu64) (pe_fld (pv 0) rfl) (pe_fld (pv 1) rfl) (nomark _)) (pe_one (pe_cmpR (op_eqD hu64) (pe_fld (pv 0) rfl) (pe_fld (pv 1) rfl) (nomark _))))))))), ?_⟩
    rcases h with ⟨b, ps', gs', cs', tp', rfl, ho', sh', q⟩ | ⟨t, ty, kt, q⟩
    · obtain ⟨dx, pa, ga, ca, xs, ys, zs, h0, h1, e1, h2, e2, h3, e3⟩ := ho.ex
      obtain ⟨dx', pa', ga', ca', xs', ys', zs', h0', h1', e1', h2', e2', h3', e3'⟩ := ho'.ex
      refine ⟨.ref b, rfl, _, _, .ref C, .ref C, true, rfl, .own C, .base (.ins h0' L.cl Lk.ha Lk.hn Lk.ht Lk.hm), kit_self, true, rfl, iteT ?_⟩
      refine ⟨.ref a, rfl, a, C, dx, _, _, rfl, h0, L.cl, L.nP, plF_p, .ref b, rfl, b, C, dx', _, _, rfl, h0', L.cl, L.nP, plF_p, partsD ps, partsD ps', dp_parts h1 e1, dp_parts h1' e1', sh.p.shaped (by decide), sh'.p.shaped (by decide), _, rfl, ?_⟩
      cases hp : PyData.eqv (partsD ps) (partsD ps') with
      | false =>
        have e : eqPl ps gs cs tp ps' gs' cs' tp' = false := by unfold eqPl; rw [hp]; rfl
        rw [e] at q
        exact iteF q
      | true =>
        refine iteT ?_
        refine ⟨.ref a, rfl, a, C, dx, _, _, rfl, h0, L.cl, L.nG, plF_g, .ref b, rfl, b, C, dx', _, _, rfl, h0', L.cl, L.nG, plF_g, gatesD gs, gatesD gs', dp_gates h2 e2, dp_gates h2' e2', sh.g.shaped (by decide), sh'.g.shaped (by decide), _, rfl, ?_⟩
        cases hg : PyData.eqv (gatesD gs) (gatesD gs') with
        | false =>
          have e : eqPl ps gs cs tp ps' gs' cs' tp' = false := by unfold eqPl; rw [hp, hg]; rfl
          rw [e] at q
          exact iteF q
        | true =>
          refine iteT ?_
          refine ⟨.ref a, rfl, a, C, dx, _, _, rfl, h0, L.cl, L.nC, plF_c, .ref b, rfl, b, C, dx', _, _, rfl, h0', L.cl, L.nC, plF_c, causesD cs, causesD cs', dp_causes h3 e3, dp_causes h3' e3', sh.c.shaped (by decide), sh'.c.shaped (by decide), _, rfl, ?_⟩
          cases hc : PyData.eqv (causesD cs) (causesD cs') with
          | false =>
            have e : eqPl ps gs cs tp ps' gs' cs' tp' = false := by unfold eqPl; rw [hp, hg, hc]; rfl
            rw [e] at q
            exact iteF q
          | true =>
            refine iteT ?_
            have e : eqPl ps gs cs tp ps' gs' cs' tp' = PyData.eqv (.str tp) (.str tp') := by unfold eqPl; rw [hp, hg, hc]; rfl
            rw [e] at q
            exact ⟨.ref a, rfl, a, C, dx, _, _, rfl, h0, L.cl, L.nT, plF_t, .ref b, rfl, b, C, dx', _, _, rfl, h0', L.cl, L.nT, plF_t, .str tp, .str tp', .str tp, .str tp', (sh_str sh.t).shaped (by decide), (sh_str sh'.t).shaped (by decide), q⟩
    · exact ⟨y, rfl, _, _, t, .ref C, false, rfl, .own C, ty, kt, false, rfl, iteF q⟩
end
end Kf

set_option Elab.async false
set_option linter.all false
set_option maxRecDepth 100000
set_option maxHeartbeats 2000000
namespace Kf
open PySem PySem.Spec PyProof.Rows L2 LamX NdefX
/-! ## the harness -/
theorem erase_perm {α : Type} : ∀ (l : List α) (j : Nat) (h : j < l.length), (l[j] :: l.eraseIdx j).Perm l
  | [], j, h => by simp at h
  | x :: r, 0, h => List.Perm.refl _
  | x :: r, j + 1, h => by
    have h2 : j < r.length := by simpa using h
    have ih := erase_perm r j h2
    show (r[j] :: x :: r.eraseIdx j).Perm (x :: r)
    exact (List.Perm.swap x r[j] _).trans (List.Perm.cons x ih)
theorem Kp.kt {K : PySem.W.Frag} {d L : Addr} {H H' : Hp} {C : Addr} (kp : Kp d L H H') (D : Dr H d L C) : KT K H H' := by
  intro a xs h
  obtain ⟨ls, cs, r, t, m, D⟩ := D
  rcases h with (h | ⟨o, h⟩) | h
  · exact .inl (.inl (kp _ _ h (ne_of h D.hd (by intro z; cases z)) (ne_of h D.hL (by intro z; cases z))))
  · exact .inl (.inr ⟨o, kp _ _ h (ne_of h D.hd (by intro z; cases z)) (ne_of h D.hL (by intro z; cases z))⟩)
  · exact .inr h
/-- an item whose data stays while tuples stay -/
def IteOk (K : PySem.W.Frag) (H : Hp) (v : V) : Prop := ∃ d, (∀ H', KT K H H' → Dp K H' v d) ∧ ShOk 60 d
theorem KT.refl {K : PySem.W.Frag} {H : Hp} : KT K H H := fun _ _ h => h
theorem KT.trans {K : PySem.W.Frag} {H H1 H2 : Hp} (a : KT K H H1) (b : KT K H1 H2) : KT K H H2 := fun x xs h => b x xs (a x xs h)
theorem IteOk.kt {K : PySem.W.Frag} {H H1 : Hp} {v : V} (h : IteOk K H v) (k : KT K H H1) : IteOk K H1 v := by
  obtain ⟨d, h1, h2⟩ := h
  exact ⟨d, fun H' k' => h1 H' (k.trans k'), h2⟩
theorem ite_str {K : PySem.W.Frag} {H : Hp} {z : Str} (h : StrOk z) : IteOk K H (.str z) := ⟨.str z, fun _ _ => .str z, (sh_str h).up (by decide)⟩
theorem dpAll_of {K : PySem.W.Frag} {H : Hp} : ∀ {xs : List V}, (∀ v ∈ xs, IteOk K H v) → ∃ ds, DpAll K H xs ds ∧ (∀ d ∈ ds, ShOk 60 d) ∧ ds.length = xs.length
  | [], _ => ⟨[], .nil, fun d h => (by cases h), rfl⟩
  | x :: r, h => by
    obtain ⟨d, h1, h2⟩ := h x (List.mem_cons_self ..)
    obtain ⟨ds, h3, h4, h5⟩ := dpAll_of fun v hv => h v (List.mem_cons_of_mem _ hv)
    refine ⟨d :: ds, .cons (h1 H KT.refl) h3, fun e he => ?_, by simp [h5]⟩
    rcases List.mem_cons.mp he with e1 | he
    · rw [e1]; exact h2
    · exact h4 e he
theorem shaped_list {ds : List PyData} (h : ∀ d ∈ ds, ShOk 60 d) : SeqAt.shaped (.list ds) = true := by
  have e : ds = ds.map id := by simp
  have h1 : PyData.canLayAll0 ds = true := by rw [e]; exact canAll_map fun x hx => (h x hx).can
  have h2 : PyData.depthAll ds ≤ 60 := by rw [e]; exact depthAll_map fun x hx => (h x hx).dep
  show (PyData.canLay0 (.list ds) && decide (PyData.depth (.list ds) ≤ 64)) = true
  rw [decide_eq_true (by simp only [PyData.depth]; omega)]
  simp only [PyData.canLay0, h1]
  rfl
theorem eqv_nilD : ∀ ds : List PyData, PyData.eqv (.list ds) (.list []) = ds.isEmpty
  | [] => by simp [PyData.eqv, PyData.eqvAll]
  | n :: r => by simp [PyData.eqv, PyData.eqvAll]
theorem Dr.new {H : Hp} {d L C p : Addr} {o : HO} (D : Dr H d L C) (n : H p = none) : Dr (upd H p o) d L C := by
  obtain ⟨ls, cs, r, t, m, D⟩ := D
  exact ⟨ls, cs, r, t, m, D.new n⟩
theorem Dr.same {H H' : Hp} {d L C : Addr} (D : Dr H d L C) (s : Same H H') : Dr H' d L C := by
  obtain ⟨ls, cs, r, t, m, D⟩ := D
  exact ⟨ls, cs, r, t, m, { D with hd := s _ _ D.hd, hL := s _ _ D.hL, hC := s _ _ D.hC }⟩
theorem Dr.lst {H : Hp} {d L C p : Addr} {xs : List V} (D : Dr H d L C) (h : H p = some (.lst xs)) (n1 : p ≠ L) (n2 : p ≠ C) (o : HO) : Dr (upd H p o) d L C := by
  obtain ⟨ls, cs, r, t, m, D⟩ := D
  have n3 : p ≠ d := ne_of h D.hd (by intro z; cases z)
  exact ⟨ls, cs, r, t, m, { D with hd := by rw [upd_ne n3.symm]; exact D.hd, hL := by rw [upd_ne n1.symm]; exact D.hL, hC := by rw [upd_ne n2.symm]; exact D.hC }⟩
theorem Dr.neL {H : Hp} {d L C p : Addr} (D : Dr H d L C) (n : H p = none) : p ≠ L ∧ p ≠ C ∧ p ≠ d := by
  obtain ⟨ls, cs, r, t, m, D⟩ := D
  exact ⟨(ne_of_none D.hL n).symm, (ne_of_none D.hC n).symm, (ne_of_none D.hd n).symm⟩
theorem Same.kp {d L : Addr} {H H' : Hp} (s : Same H H') : Kp d L H H' := fun b o h _ _ => s b o h
/-- a write at a place that was new then -/
theorem Kp.at {d L p : Addr} {H H' : Hp} {o : HO} (k : Kp d L H H') (n : H p = none) : Kp d L H (upd H' p o) := fun b u h n1 n2 => by
  rw [upd_ne (ne_of_none h n)]
  exact k b u h n1 n2
section
variable {P : Program} {w : World} {K : PySem.W.Frag} {mg : Str → Option Value} {base : Heap}
def spMixed (K : PySem.W.Frag) : Sp := fun vs H Q _ => ∃ d L C a xs, vs = [.ref d, .ref a] ∧ Dr H d L C ∧ Sq K H a xs ∧ (∀ v ∈ xs, IteOk K H v) ∧ xs.length ≤ 100 ∧ ∀ H' p ys, Dr H' d L C → Kp d L H H' → H p = none → H' p = some (.lst ys) → ys.Perm xs → p ≠ L → Q (.ref p) H'
theorem ok_mixed {f : Addr} {fd : FuncData} {k : Nat} (F : L2.Fun K "_law_mixed" "_law_mixed" s__law_mixed f fd) (T : Nm mg) (C__law_take : Cal P w K mg base 1 "_law_take" ["draw", "size"] spTake) : FnOk P w K mg base CX0 2 f fd ["draw", "some"] (spMixed K) := by
  refine F.ok sc__law_mixed (fun vs H Q E h => ?_) (fun cdv A outer s H vs Q E hr h => ?_)
  · obtain ⟨d, L, C, a, xs, rfl, _⟩ := h
    rfl
  · obtain ⟨d, L, C, a, xs, rfl, D, h, hi, hl, q⟩ := h
    have hu64 := hr.units
    refine ⟨_, (pss_cons (ps_par (i := 2) (j := 3) (by rfl) sc__law_mixed.nd rfl rfl (by decide) rfl rfl (pa_cons (pe_callTy call_list_of (by rfl) T.n_list (by decide +kernel) (pa_cons (pv 1) pa_nil)) (pa_cons (pe_lst pa_nil) pa_nil)) (by rfl))
 (pss_cons (ps_while PassesOwn.never (pt_cmpR (op_neD hu64) (pv 2) (pe_lst pa_nil) (nomark _)) (pss_one (ps_expr (pe_bm PySem.F.plainAttrs_list PySem.F.slot_list_append PySem.F.type_list_append mt_append (pv 3) (pa_cons (pe_bm PySem.F.plainAttrs_list PySem.F.slot_list_pop PySem.F.type_list_pop mt_popAt (pv 2) (pa_cons (pe_cal C__law_take (by decide) hr (by rfl) (pa_cons (pv 0) (pa_cons (pe_callB (call_lenK (K := K) rfl) (by rfl) T.n_len (by decide +kernel) (pa_cons (pv 2) pa_nil)) pa_nil))) pa_nil)) pa_nil)))))
 (pss_one (ps_ret (pv 3))))), ?_⟩
    refine ⟨.ref a, rfl, a, xs, rfl, h, fun l nl => ?_⟩
    have s1 : Same H (upd H l (.lst xs)) := Same.new nl
    refine ⟨Nat.zero_le _, fun n nn => ?_⟩
    have s2 := s1.trans (Same.new (o := .lst []) nn)
    have nln : l ≠ n := ne_of_none (upd_same (H := H) (a := l)) nn
    have nn0 : H n = none := s1.free nn
    refine ⟨_, _, rfl, ?_⟩
    refine while_by (fun σ H2 => ∃ left found, σ = [some (.ref d), some (.ref a), some (.ref l), some (.ref n)] ∧ Dr H2 d L C ∧ Kp d L H H2 ∧ H2 l = some (.lst left) ∧ H2 n = some (.lst found) ∧ (found ++ left).Perm xs) (fun _ H2 => match H2 l with | some (.lst ys) => ys.length | _ => 0)
      ⟨xs, [], rfl, D.same s2, (Same.kp s2), by rw [upd_ne nln, upd_same], upd_same, List.Perm.refl _⟩ (fun σ H2 p => ?_) ?_
    · obtain ⟨left, found, rfl, D2, kp, hL, hF, pm⟩ := p
      have hlen : found.length + left.length = xs.length := by
        have := pm.length_eq
        simpa using this
      refine ⟨.ref l, rfl, Nat.zero_le _, fun e ne => ?_⟩
      have s3 : Same H2 (upd H2 e (.lst [])) := Same.new ne
      have kt3 : KT K H (upd H2 e (.lst [])) := (kp.kt D).trans (Same.kt s3)
      obtain ⟨ds, hds, hsh, hdl⟩ := dpAll_of (K := K) (H := upd H2 e (.lst [])) (xs := left) fun v hv => (hi v (pm.mem_iff.mp (List.mem_append_right _ hv))).kt kt3
      refine ⟨.list ds, .list [], .lst (.of (s3 _ _ hL)) hds, .lst (.of upd_same) .nil, shaped_list hsh, shaped_list (fun d h => by cases h), ?_⟩
      rw [eqv_nilD]
      refine ⟨_, rfl, ?_⟩
      cases left with
      | nil =>
        have e0 : ds = [] := List.eq_nil_of_length_eq_zero hdl
        subst e0
        refine iteF ?_
        refine ⟨.ref n, rfl, q _ n found (D2.same s3) (kp.trans (Same.kp s3)) nn0 (s3 _ _ hF) (by simpa using pm) (D.neL nn0).1⟩
      | cons x r =>
        have e0 : (!ds.isEmpty) = true := by
          cases ds with
          | nil => simp at hdl
          | cons _ _ => rfl
        rw [e0]
        refine iteT ?_
        have hL3 := s3 _ _ hL
        have hF3 := s3 _ _ hF
        have nlL := D.neL nl
        have hl2 : (x :: r).length ≤ 100 := by omega
        have hl3 : 0 < (x :: r).length := by simp
        have nnL := D.neL nn0
        refine ⟨.ref n, rfl, .inl ⟨rfl, _, .of hF3⟩, .ref l, rfl, .inl ⟨rfl, _, .of hL3⟩, .ref d, rfl, .ref l, rfl, l, _, rfl, .inl (.of hL3), d, L, C, _, rfl, D2.same s3, by omega, by omega, fun H4 i D4 kp4 hi0 hi1 => ?_⟩
        obtain ⟨j, rfl⟩ : ∃ j : Nat, i = (j : Int) := ⟨i.toNat, by omega⟩
        have hj : j < (x :: r).length := by omega
        have hL4 := kp4 _ _ hL3 nlL.2.2 nlL.1
        have hF4 := kp4 _ _ hF3 nnL.2.2 nnL.1
        refine ⟨l, _, (j : Int), j, (x :: r)[j], rfl, rfl, hL4, by omega, by omega, PySem.StrLaws.seqIndex_nonneg (by omega) (by omega), List.getElem?_eq_getElem hj, ?_⟩
        have hF5 : (upd H4 l (.lst ((x :: r).eraseIdx j))) n = some (.lst found) := by rw [upd_ne nln.symm]; exact hF4
        refine ⟨n, _, _, rfl, rfl, hF5, by rw [sizeLine_eq]; simp at hlen; omega, ?_⟩
        refine ⟨⟨(x :: r).eraseIdx j, found ++ [(x :: r)[j]], rfl, (D4.lst hL4 nlL.1 nlL.2.1 _).lst hF5 nnL.1 nnL.2.1 _, (((kp.trans (Same.kp s3)).trans kp4).at nl).at nn0, by rw [upd_ne nln, upd_same], upd_same, ?_⟩, ?_⟩
        · refine List.Perm.trans ?_ pm
          rw [List.append_assoc]
          refine List.Perm.append_left _ ?_
          exact erase_perm _ _ hj
        · show (match (upd (upd H4 l (.lst ((x :: r).eraseIdx j))) n _) l with | some (.lst ys) => ys.length | _ => 0) < (match H2 l with | some (.lst ys) => ys.length | _ => 0)
          rw [upd_ne nln, upd_same, hL]
          show ((x :: r).eraseIdx j).length < (x :: r).length
          rw [List.length_eraseIdx, if_pos hj]
          simp
    · intro σ H2 Q1 Q2 hq h
      obtain ⟨v, hv, h1, h2⟩ := h
      refine ⟨v, hv, h1, fun e ne => ?_⟩
      obtain ⟨d1, d2, a1, a2, a3, a4, k, ek, hk⟩ := h2 e ne
      exact ⟨d1, d2, a1, a2, a3, a4, k, ek, hq _ _ hk⟩
/-! ### one of a list, a tuple, a text -/
def spPick2 (K : PySem.W.Frag) : Sp := fun vs H Q _ => ∃ d L C v, vs = [.ref d, v] ∧ Dr H d L C ∧
  ((∃ a xs, v = .ref a ∧ a ≠ L ∧ Sq K H a xs ∧ 0 < xs.length ∧ xs.length < 1000 ∧ ∀ H' x, Dr H' d L C → Kp d L H H' → x ∈ xs → Q x H') ∨
   (∃ z, v = .str z ∧ 0 < z.length ∧ z.length < 1000 ∧ ∀ H' c, Dr H' d L C → Kp d L H H' → c ∈ z.cps.toList → Q (.str ⟨#[c]⟩) H'))
theorem ok_pick2 {f : Addr} {fd : FuncData} (F : L2.Fun K "_law_pick" "_law_pick" s__law_pick f fd) (T : Nm mg) (C__law_take : Cal P w K mg base 1 "_law_take" ["draw", "size"] spTake) : FnOk P w K mg base CX0 2 f fd ["draw", "some"] (spPick2 K) := by
  refine F.ok sc__law_pick (fun vs H Q E h => ?_) (fun cdv A outer s H vs Q E hr h => ?_)
  · obtain ⟨d, L, C, v, rfl, _⟩ := h
    rfl
  · obtain ⟨d, L, C, v, rfl, D, h⟩ := h
    refine ⟨_, pss_one (ps_ret (pe_ix ix_seq (pv 1) (pe_cal C__law_take (by decide) hr (by rfl) (pa_cons (pv 0) (pa_cons (pe_callB call_len (by rfl) T.n_len PySem.boot_len (pa_cons (pv 1) pa_nil)) pa_nil))) (fun _ _ => rfl))), ?_⟩
    rcases h with ⟨a, xs, rfl, n, hS, h0, h1, q⟩ | ⟨z, rfl, h0, h1, q⟩
    · have hlen : LenV K (.ref a) H xs.length := hS.elim (fun h => .inl ⟨xs, h, rfl⟩) fun h => .inr ⟨xs, h, rfl⟩
      refine ⟨.ref a, rfl, .ref d, rfl, .ref a, rfl, _, xs.length, rfl, hlen, d, L, C, xs.length, rfl, D, by omega, by omega, fun H' k D' kp hk0 hk1 => ?_⟩
      obtain ⟨j, rfl⟩ : ∃ j : Nat, k = (j : Int) := ⟨k.toNat, by omega⟩
      have hj : j < xs.length := by omega
      have q2 := q _ _ D' kp (List.getElem_mem hj)
      rcases hS with hS | hS
      · exact .inl ⟨a, xs, _, xs[j], rfl, rfl, kp.seq D n hS, atI_nat (List.getElem?_eq_getElem hj), q2⟩
      · exact .inr (.inl ⟨a, xs, _, xs[j], rfl, rfl, kp.kt D _ _ hS, atI_nat (List.getElem?_eq_getElem hj), q2⟩)
    · refine ⟨.str z, rfl, .ref d, rfl, .str z, rfl, _, z.length, rfl, ⟨by rw [sizeLine_eq]; omega, rfl⟩, d, L, C, z.length, rfl, D, by omega, by omega, fun H' k D' kp hk0 hk1 => ?_⟩
      obtain ⟨j, rfl⟩ : ∃ j : Nat, k = (j : Int) := ⟨k.toNat, by omega⟩
      have hj : j < z.cps.toList.length := by
        have e : z.cps.toList.length = z.length := by simp [Str.length]
        omega
      exact .inr (.inr ⟨z, _, z.cps.toList[j], rfl, rfl, by rw [sizeLine_eq]; omega, atI_nat (List.getElem?_eq_getElem hj), q _ _ D' kp (List.getElem_mem hj)⟩)
end
end Kf

set_option Elab.async false
set_option linter.all false
set_option maxRecDepth 100000
set_option maxHeartbeats 2000000
namespace Kf
open PySem PySem.Spec PyProof.Rows L2 LamX NdefX TL
/-! ## words -/
def nameB (z : Str) : Bool := decide (1 ≤ z.cps.toList.length) && decide (z.cps.toList.length ≤ 6) && z.cps.toList.all fun c => decide (97 ≤ c) && decide (c ≤ 122)
theorem len_tl (z : Str) : z.cps.toList.length = z.length := by simp [Str.length]
theorem nameOk_of {z : Str} (h : nameB z = true) : NameOk z := by
  unfold nameB at h
  simp only [Bool.and_eq_true, decide_eq_true_eq, List.all_eq_true, len_tl] at h
  exact ⟨h.1.1, h.1.2, fun c hc => h.2 c hc⟩
def menuL : List Str := ["a", "b", "c", "fail", "mend", "all", "least", "spare", "before", "top", "none", "zzzzzz"]
theorem menu_ok : ∀ x ∈ menuL, NameOk x := fun x hx => nameOk_of ((by decide +kernel : ∀ x ∈ menuL, nameB x = true) x hx)
theorem joinL_nil : ∀ ls : List (List Nat), joinL [] ls = ls.flatten
  | [] => rfl
  | [p] => by simp [joinL]
  | p :: q :: r => by
    have ih := joinL_nil (q :: r)
    show p ++ ([] ++ joinL [] (q :: r)) = _
    rw [ih]
    simp
theorem tl_empty : tl ("" : Str) = [] := by decide +kernel
theorem join_letters (cs : List Nat) : tl (Txt.join ("" : Str) (cs.map fun c => (⟨#[c]⟩ : Str))) = cs := by
  rw [join_eq, tl_join, tl_empty, joinL_nil, List.map_map]
  have e : (tl ∘ fun c : Nat => (⟨#[c]⟩ : Str)) = fun c => [c] := by funext c; rfl
  rw [e]
  induction cs with
  | nil => rfl
  | cons c r ih => simp [ih]
theorem nameOk_tl {z : Str} {cs : List Nat} (e : tl z = cs) (h1 : 1 ≤ cs.length) (h2 : cs.length ≤ 6) (h3 : ∀ c ∈ cs, 97 ≤ c ∧ c ≤ 122) : NameOk z :=
  ⟨by rw [← len_tl]; show 1 ≤ (tl z).length; rw [e]; exact h1, by rw [← len_tl]; show (tl z).length ≤ 6; rw [e]; exact h2, fun c hc => h3 c (by rw [← e]; exact hc)⟩
theorem tl_cut5 (z : Str) : tl (cutS z none (some 5)) = (tl z).take 5 := by
  have e1 : HT.sIx z.length 0 none = 0 := rfl
  have e2 : HT.sIx z.length z.length (some 5) = min 5 z.length := HT.sIx_nat z.length z.length 5
  show ((z.cps.toList.drop (HT.sIx z.length 0 none)).take (HT.sIx z.length z.length (some 5) - HT.sIx z.length 0 none)).toArray.toList = _
  rw [e1, e2]
  simp only [List.drop_zero, Nat.sub_zero]
  show z.cps.toList.take (min 5 z.length) = z.cps.toList.take 5
  rw [← len_tl]
  by_cases h : z.cps.toList.length ≤ 5
  · rw [Nat.min_eq_right h, List.take_of_length_le (Nat.le_refl _), List.take_of_length_le h]
  · rw [Nat.min_eq_left (by omega)]
def cand (w : Str) (c : Nat) : Str := cutS w none (some 5) ++ (⟨#[c]⟩ : Str)
theorem tl_cand (w : Str) (c : Nat) : tl (cand w c) = (tl w).take 5 ++ [c] := by
  unfold cand
  rw [tl_append, tl_cut5]
theorem cand_inj {w : Str} {c c' : Nat} (h : cand w c = cand w c') : c = c' := by
  have e := congrArg tl h
  rw [tl_cand, tl_cand] at e
  have := List.append_cancel_left e
  simpa using this
theorem cand_ok {w : Str} {c : Nat} (h : NameOk w) (hc : 97 ≤ c ∧ c ≤ 122) : NameOk (cand w c) := by
  refine nameOk_tl (tl_cand w c) (by simp) (by simp; omega) fun x hx => ?_
  rcases List.mem_append.mp hx with hx | hx
  · exact h.low x (List.mem_of_mem_take hx)
  · rw [List.mem_singleton.mp hx]
    exact hc
def cands (w : Str) (n : Nat) : List Str := (List.range n).map fun i => cand w (97 + i)
theorem cands_nodup (w : Str) (n : Nat) : (cands w n).Nodup := by
  unfold cands
  refine List.Pairwise.map _ (fun a b hab => ?_) List.nodup_range
  intro e
  have := cand_inj e
  exact hab (by omega)
theorem letter_at {i : Nat} (h : i < 26) : (Str.ofString "abcdefghijklmnopqrstuvwxyz").cps[i]? = some (97 + i) := by
  have e : (Str.ofString "abcdefghijklmnopqrstuvwxyz").cps.toList[i]? = some (97 + i) := by
    rw [letters_eq, List.getElem?_range' h]
    simp
  rw [← Array.getElem?_toList]
  exact e
theorem letters_size : (Str.ofString "abcdefghijklmnopqrstuvwxyz").cps.size = 26 := by decide +kernel
theorem pigeon : ∀ {l1 l2 : List Str}, l1.Nodup → (∀ x ∈ l1, x ∈ l2) → l1.length ≤ l2.length
  | [], _, _, _ => Nat.zero_le _
  | x :: r, l2, nd, h => by
    have hx := h x (List.mem_cons_self ..)
    have nd2 := List.nodup_cons.mp nd
    have ih := pigeon (l1 := r) (l2 := l2.erase x) nd2.2 fun y hy => (List.mem_erase_of_ne (fun e : y = x => nd2.1 (by rw [← e]; exact hy))).mpr (h y (List.mem_cons_of_mem _ hy))
    rw [List.length_erase_of_mem hx] at ih
    have hp : 0 < l2.length := List.length_pos_of_mem hx
    rw [List.length_cons]
    omega
def freeW (w : Str) (ws : List Str) : List Str := (w :: cands w 26).filter fun z => !decide (z ∈ ws)
theorem freeW_ne {w : Str} {ws : List Str} (h : ws.length < 26) : freeW w ws ≠ [] := by
  intro e
  have h1 : ∀ x ∈ cands w 26, x ∈ ws := fun x hx => by
    by_cases hm : x ∈ ws
    · exact hm
    · have : x ∈ freeW w ws := List.mem_filter.mpr ⟨List.mem_cons_of_mem _ hx, by simp [hm]⟩
      rw [e] at this
      cases this
  have := pigeon (cands_nodup w 26) h1
  simp [cands] at this
  omega
theorem freeW_ok {w : Str} {ws : List Str} (h : NameOk w) {x : Str} (hx : x ∈ freeW w ws) : NameOk x ∧ ¬ x ∈ ws := by
  obtain ⟨h1, h2⟩ := List.mem_filter.mp hx
  refine ⟨?_, by simpa using h2⟩
  rcases List.mem_cons.mp h1 with e | h1
  · rw [e]; exact h
  · obtain ⟨i, hi, rfl⟩ := List.mem_map.mp h1
    have := List.mem_range.mp hi
    exact cand_ok h (by omega)
/-- a name, no q ahead -/
def NQ (z : Str) : Prop := (tl z).head? ≠ some 113
def WordOk (z : Str) : Prop := NameOk z ∧ NQ z
theorem menu_nq : ∀ x ∈ menuL, NQ x := by
  unfold NQ
  decide +kernel
theorem menu_ok2 : ∀ x ∈ menuL, WordOk x := fun x hx => ⟨menu_ok x hx, menu_nq x hx⟩
theorem nq_letters {z : Str} {cs : List Nat} (e : tl z = cs) (h1 : 1 ≤ cs.length) (h : ∀ c ∈ cs, c ≠ 113) : NQ z := by
  unfold NQ
  rw [e]
  cases cs with
  | nil => simp at h1
  | cons c r => exact fun z => h c (List.mem_cons_self ..) (Option.some.inj z)
theorem cand_nq {w : Str} {c : Nat} (h : WordOk w) : NQ (cand w c) := by
  have h1 := h.1.lo
  have h2 := h.2
  unfold NQ at h2 ⊢
  rw [tl_cand]
  have hl : (tl w).length = w.length := len_tl w
  cases e : tl w with
  | nil => rw [e] at hl; simp at hl; omega
  | cons x r =>
    rw [e] at h2
    exact h2
theorem freeW_ok2 {w : Str} {ws : List Str} (h : WordOk w) {x : Str} (hx : x ∈ freeW w ws) : WordOk x ∧ ¬ x ∈ ws := by
  refine ⟨⟨(freeW_ok h.1 hx).1, ?_⟩, (freeW_ok h.1 hx).2⟩
  obtain ⟨h1, _⟩ := List.mem_filter.mp hx
  rcases List.mem_cons.mp h1 with e | h1
  · rw [e]; exact h.2
  · obtain ⟨i, hi, rfl⟩ := List.mem_map.mp h1
    exact cand_nq h
theorem abcxyz_nq : ∀ c ∈ (Str.ofString "abcxyz").cps.toList, c ≠ 113 := by decide +kernel
section
variable {P : Program} {w : World} {K : PySem.W.Frag} {mg : Str → Option Value} {base : Heap}
def spWords : Sp := fun vs H Q _ => ∃ d L C n, vs = [.ref d, .int (n : Nat)] ∧ Dr H d L C ∧ n ≤ 26 ∧ ∀ H' p ws, Dr H' d L C → Kp d L H H' → H p = none → p ≠ L → H' p = some (.lst (sV ws)) → ws.length = n → ws.Nodup → (∀ x ∈ ws, WordOk x) → Q (.ref p) H'
theorem abcxyz_ok : ∀ c ∈ (Str.ofString "abcxyz").cps.toList, 97 ≤ c ∧ c ≤ 122 := by decide +kernel
theorem gName_of {i : Nat} {v : V} {σ : L2.St} {H : Hp} {Q : L2.St → Hp → Prop} (h : Q (σ.set i (some v)) H) : gName i v σ H Q := h
theorem sV_snoc (l : List Str) (x : Str) : sV l ++ [V.str x] = sV (l ++ [x]) := by simp [sV]
theorem ok_words {f : Addr} {fd : FuncData} (F : L2.Fun K "_law_words" "_law_words" s__law_words f fd) (T : Nm mg) (C__law_take : Cal P w K mg base 1 "_law_take" ["draw", "size"] spTake) (C__law_pick : Cal P w K mg base 2 "_law_pick" ["draw", "some"] (spPick2 K)) : FnOk P w K mg base CX0 3 f fd ["draw", "many"] spWords := by
  refine F.ok sc__law_words (fun vs H Q E h => ?_) (fun cdv A outer s H vs Q E hr h => ?_)
  · obtain ⟨d, L, C, n, rfl, _⟩ := h
    rfl
  · obtain ⟨d, L, C, n, rfl, D, hn, q⟩ := h
    refine ⟨_, (pss_cons (ps_asg (pe_tup (pa_cons (pe_lst (pa_cons pe_str (pa_cons pe_str (pa_cons pe_str (pa_cons pe_str (pa_cons pe_str (pa_cons pe_str (pa_cons pe_str (pa_cons pe_str (pa_cons pe_str (pa_cons pe_str (pa_cons pe_str (pa_cons pe_str pa_nil))))))))))))) (pa_cons (pe_lst pa_nil) pa_nil))) (pg_tupK (K := K) (n := 2) rfl rfl (pgs_cons (pg_name (i := 2) sc__law_words.nd rfl (.inl rfl)) (pgs_cons (pg_name (i := 3) sc__law_words.nd rfl (.inr rfl)) pgs_nil))))
 (pss_cons (ps_for PassesOwn.never rfl (pi_range1 rfl T.n_range (pa_cons (pv 1) pa_nil)) (pg_name (i := 4) sc__law_words.nd rfl (.inl rfl))
 (pss_cons (ps_set (i := 5) sc__law_words.nd rfl (.inr rfl) (pe_cal C__law_pick (by decide) hr (by rfl) (pa_cons (pv 0) (pa_cons (pv 2) pa_nil))))
 (pss_cons (ps_if (pt_cmpR op_eq (pe_cal C__law_take (by decide) hr (by rfl) (pa_cons (pv 0) (pa_cons pe_int pa_nil))) pe_int (nomark _))
 (pss_one (ps_set (i := 5) sc__law_words.nd rfl (.inr rfl) (pe_join pe_str (pe_lc (own := [("j", 7)]) (g := gName 7) (by rfl) sc__law_words.nd (pi_range1 rfl T.n_range (pa_cons (pe_op op_add pe_int (pe_cal C__law_take (by decide) hr (by rfl) (pa_cons (pv 0) (pa_cons pe_int pa_nil)))) pa_nil)) (blkOk_by (own := [("j", 7)]) (N := ["draw", "many", "menu", "found", "k", "word", "some", "j", "sign", "one"]) (sc := defScope s__law_words) (by decide +kernel)) (fun _ _ _ _ _ => pg_name (i := 7) sc__law_words.nd rfl (.inl rfl)) (fun _ _ _ _ _ => pts_nil) (fun _ _ _ _ _ => (pe_cal C__law_pick (by decide) hr (by rfl) (pa_cons (pv 0) (pa_cons pe_str pa_nil))))))))
 pss_nil)
 (pss_cons (ps_set (i := 6) sc__law_words.nd rfl (.inl rfl) (pe_op op_cat (pe_lst (pa_cons (pv 5) pa_nil)) (pe_lc (own := [("sign", 8)]) (g := gName 8) (by rfl) sc__law_words.nd (pi_str pe_str) (blkOk_by (own := [("sign", 8)]) (N := ["draw", "many", "menu", "found", "k", "word", "some", "j", "sign", "one"]) (sc := defScope s__law_words) (by decide +kernel)) (fun _ _ _ _ _ => pg_name (i := 8) sc__law_words.nd rfl (.inl rfl)) (fun _ _ _ _ _ => pts_nil) (fun _ _ _ _ _ => (pe_op op_add_str (pe_slice sl_str (pv 5) po_none (po_some pe_int)) (pv 8))))))
 (pss_one (ps_expr (pe_bm PySem.F.plainAttrs_list PySem.F.slot_list_append PySem.F.type_list_append mt_append (pv 3) (pa_cons (pe_ix ix_list (pe_lc (own := [("one", 9)]) (g := gName 9) (by rfl) sc__law_words.nd (pi_list (pv 6)) (blkOk_by (own := [("one", 9)]) (N := ["draw", "many", "menu", "found", "k", "word", "some", "j", "sign", "one"]) (sc := defScope s__law_words) (by decide +kernel)) (fun _ _ _ _ _ => pg_name (i := 9) sc__law_words.nd rfl (.inl rfl)) (fun _ _ _ _ _ => pts_one (pt_cmpR (op_notInK (K := K) rfl) (pv 9) (pv 3) (by with_unfolding_all rfl))) (fun _ _ _ _ _ => (pv 9))) pe_int (fun _ _ => rfl)) pa_nil))))))))
 (pss_one (ps_ret (pv 3))))), ?_⟩
    refine ⟨by show 12 ≤ sizeLine; decide, fun m nm => ⟨Nat.zero_le _, fun fo nf => ⟨by show 2 ≤ sizeLine; decide, fun t nt => ?_⟩⟩⟩
    have s1 : Same H (upd H m (.lst (sV menuL))) := Same.new nm
    have s2 : Same (upd H m (.lst (sV menuL))) _ := Same.new (o := .lst []) nf
    have s3 : Same (upd (upd H m (.lst (sV menuL))) fo (.lst [])) _ := Same.new (o := .tup [.ref m, .ref fo]) nt
    have s03 := (s1.trans s2).trans s3
    have nf0 : H fo = none := s1.free nf
    have hm3 := s3 _ _ (s2 _ _ (upd_same (H := H) (a := m) (o := .lst (sV menuL))))
    have hf3 := s3 _ _ (upd_same (H := upd H m (.lst (sV menuL))) (a := fo) (o := .lst []))
    have nmf : m ≠ fo := ne_of_none (upd_same (H := H) (a := m)) nf
    have mL := D.neL nm
    have fL := D.neL nf0
    refine ⟨t, _, rfl, .of upd_same, rfl, .ref m, _, rfl, .ref fo, [], rfl, rfl, ?_⟩
    refine ⟨.int n, rfl, n, rfl, by omega, by omega, for_it (walk_range (lo := 0) (n := n)) (fun i σ H2 => ∃ y4 y5 y6 y7 y8 y9 ws, σ = [some (.ref d), some (.int n), some (.ref m), some (.ref fo), y4, y5, y6, y7, y8, y9] ∧ Dr H2 d L C ∧ Kp d L H H2 ∧ H2 m = some (.lst (sV menuL)) ∧ H2 fo = some (.lst (sV ws)) ∧ ws.length = i ∧ ws.Nodup ∧ ∀ x ∈ ws, WordOk x)
      ⟨_, _, _, _, _, _, [], rfl, D.same s03, Same.kp s03, hm3, hf3, rfl, List.nodup_nil, fun x h => (by cases h)⟩ (fun _ _ _ _ _ => trivial) (fun i x σ H2 H3 hi p y => ?_) (fun σ H2 p => ?_)⟩
    · obtain ⟨y4, y5, y6, y7, y8, y9, ws, rfl, D2, kp, hm, hf, hlen, nd, hok⟩ := p
      obtain ⟨rfl, rfl⟩ := y
      -- a word of the menu
      refine ⟨.ref d, rfl, .ref m, rfl, d, L, C, .ref m, rfl, D2, .inl ⟨m, sV menuL, rfl, mL.1, .inl (.of hm), by show 0 < 12; decide, by show 12 < 1000; decide, fun H4 x D4 kp4 hx => ?_⟩⟩
      obtain ⟨w0, hw0, rfl⟩ := List.mem_map.mp hx
      have nw0 := menu_ok2 w0 hw0
      have hm4 := kp4 _ _ hm mL.2.2 mL.1
      have hf4 := kp4 _ _ hf fL.2.2 fL.1
      have k4 := kp.trans kp4
      refine gName_of ?_
      dsimp only
      refine seq_of (fun σ' H5 => ∃ wd y7, σ' = [some (.ref d), some (.int n), some (.ref m), some (.ref fo), some (.int (0 + (i : Int))), some (.str wd), y6, y7, y8, y9] ∧ WordOk wd ∧ Dr H5 d L C ∧ Kp d L H H5 ∧ H5 m = some (.lst (sV menuL)) ∧ H5 fo = some (.lst (sV ws))) (fun σ' H5 p => ?_) (fun fin => ?_)
      · obtain ⟨wd, y7, rfl, nwd, D5, k5, hm5, hf5⟩ := p
        -- some
        refine ⟨.str wd, rfl, by show 1 ≤ sizeLine; decide, fun a na => ?_⟩
        have sa : Same H5 (upd H5 a (.lst (sV [wd]))) := Same.new na
        refine ⟨_, rfl, fun B nB => ?_⟩
        refine lc_it walk_str (LP _ B fun j => sV (cands wd j)) (LP.zero nB rfl) (fun _ _ _ _ => trivial) (fun j x H6 H7 hj p y => ?_) (fun H6 p => ?_)
        · obtain ⟨rfl, c, hc, rfl⟩ := y
          have hj2 : j < 26 := by rw [← letters_size]; exact hj
          have ec : c = 97 + j := by
            rw [letter_at hj2] at hc
            exact (Option.some.inj hc).symm
          subst ec
          have lw := nwd.1.hi
          have l5 : (cutS wd none (some 5)).length ≤ 5 := by rw [← len_tl]; show (tl (cutS wd none (some 5))).length ≤ 5; rw [tl_cut5]; exact List.length_take_le ..
          refine ⟨rfl, .str wd, rfl, 5, rfl, wd, rfl, by rw [sizeLine_eq]; omega, _, rfl, _, _, rfl, rfl, by rw [sizeLine_eq]; show (cutS wd none (some 5)).length + 1 ≤ 16777216; omega, ?_⟩
          refine p.put nB (Same.refl _) ?_ (by rw [sizeLine_eq]; simp [sV, cands]; omega)
          show sV (cands wd (j + 1)) = sV (cands wd j) ++ [V.str (cand wd (97 + j))]
          rw [sV_snoc]
          unfold cands
          rw [List.range_succ, List.map_append]
          rfl
        · have hB : H6 B = some (.lst (sV (cands wd 26))) := by rw [p.at_, letters_size]
          have ha6 := p.sm _ _ (upd_same (H := H5) (a := a) (o := .lst (sV [wd])))
          have sm6 := sa.trans p.sm
          refine ⟨a, B, _, _, rfl, rfl, ha6, hB, by rw [sizeLine_eq]; simp [sV, cands], fun S nS => ?_⟩
          have sS : Same H6 (upd H6 S (.lst (sV [wd] ++ sV (cands wd 26)))) := Same.new nS
          have s7 := sm6.trans sS
          have hf7 := s7 _ _ hf5
          have hS : (upd H6 S (.lst (sV [wd] ++ sV (cands wd 26)))) S = some (.lst (sV (wd :: cands wd 26))) := upd_same
          refine ⟨.ref fo, rfl, .inl ⟨rfl, _, .of hf7⟩, .ref S, rfl, S, rfl, ⟨_, .of hS⟩, fun R nR => ?_⟩
          refine lc_it (walk_list (xs := sV (wd :: cands wd 26))) (LP _ R fun j => sV (((wd :: cands wd 26).take j).filter fun z => !decide (z ∈ ws))) (LP.zero nR (by simp [sV])) (fun _ _ _ p => p.sm.seq (.of hS)) (fun j x H8 H9 hj p8 y => ?_) (fun H8 p8 => ?_)
          · obtain ⟨rfl, hx⟩ := y
            have hj2 : j < (wd :: cands wd 26).length := by simpa [sV] using hj
            have hx2 : (sV (wd :: cands wd 26))[j]? = some (.str (wd :: cands wd 26)[j]) := by
              show ((wd :: cands wd 26).map V.str)[j]? = _
              rw [List.getElem?_map, List.getElem?_eq_getElem hj2]
              rfl
            obtain rfl : x = .str (wd :: cands wd 26)[j] := Option.some.inj (hx.symm.trans hx2)
            have eT : (wd :: cands wd 26).take (j + 1) = (wd :: cands wd 26).take j ++ [(wd :: cands wd 26)[j]] := by rw [List.take_add_one, List.getElem?_eq_getElem hj2]; rfl
            have len27 : (wd :: cands wd 26).length = 27 := by simp [cands]
            refine ⟨rfl, .str (wd :: cands wd 26)[j], rfl, .ref fo, rfl, fo, _, rfl, .inl (.of (p8.sm _ _ hf7)), rfl, flat_sV _, !decide ((wd :: cands wd 26)[j] ∈ ws), by show V.bl (!inV _ (sV ws)) = _; rw [inV_sV], ite2 (fun e => ?_) (fun e => ?_)⟩
            · refine ⟨.str (wd :: cands wd 26)[j], rfl, p8.put nR (Same.refl _) ?_ ?_⟩
              · rw [eT, List.filter_append, filter_one, if_pos e, sV_snoc]
              · have : (((wd :: cands wd 26).take j).filter fun z => !decide (z ∈ ws)).length ≤ ((wd :: cands wd 26).take j).length := List.length_filter_le ..
                rw [sizeLine_eq]
                rw [List.length_take] at this
                simp only [sV, List.length_map]
                omega
            · refine p8.skip (Same.refl _) ?_
              rw [eT, List.filter_append, filter_one, if_neg e]
              simp
          · have hR : H8 R = some (.lst (sV (freeW wd ws))) := by
              rw [p8.at_]
              show some (HO.lst (sV (((wd :: cands wd 26).take (sV (wd :: cands wd 26)).length).filter _))) = _
              rw [List.take_of_length_le (by simp [sV])]
              rfl
            have ne : freeW wd ws ≠ [] := freeW_ne (by omega)
            have hf8 := p8.sm _ _ hf7
            have s8 := s7.trans p8.sm
            cases ef : freeW wd ws with
            | nil => exact absurd ef ne
            | cons z r =>
              rw [ef] at hR
              have hz : z ∈ freeW wd ws := by rw [ef]; exact List.mem_cons_self ..
              obtain ⟨nz, zn⟩ := freeW_ok2 nwd hz
              refine ⟨R, _, 0, .str z, rfl, rfl, .of hR, at0, fo, _, .str z, rfl, rfl, hf8, by rw [sizeLine_eq]; simp [sV]; omega, ?_⟩
              refine ⟨_, _, _, _, _, _, ws ++ [z], rfl, (D5.same s8).lst hf8 fL.1 fL.2.1 _, (k5.trans (Same.kp s8)).at nf0, ?_, by rw [upd_same, sV_snoc], by simp [hlen], nd_snoc nd zn, fun x hx => ?_⟩
              · rw [upd_ne nmf]
                exact s8 _ _ hm5
              · rcases List.mem_append.mp hx with h | h
                · exact hok x h
                · rw [List.mem_singleton.mp h]; exact nz
      · -- or one of letters
        refine ⟨.ref d, rfl, d, L, C, 3, rfl, D4, by decide, by decide, fun H5 k D5 kp5 h0 h1 => ⟨rfl, _, rfl, ite2 (fun e => ?_) (fun e => ?_)⟩⟩
        · have hm5 := kp5 _ _ hm4 mL.2.2 mL.1
          have hf5 := kp5 _ _ hf4 fL.2.2 fL.1
          refine ⟨⟨_, rfl⟩, .ref d, rfl, d, L, C, 6, rfl, D5, by decide, by decide, fun H6 k2 D6 kp6 g0 g1 => ⟨1, k2, rfl, rfl, 1 + k2, rfl, by omega, by omega, fun B nB => ?_⟩⟩
          have hm6 := kp6 _ _ hm5 mL.2.2 mL.1
          have hf6 := kp6 _ _ hf5 fL.2.2 fL.1
          have bL := D6.neL nB
          have kB : Kp d L H6 (upd H6 B (.lst [])) := Kp.new nB
          refine lc_it (walk_range (lo := 0) (n := (1 + k2).toNat)) (fun j H7 => ∃ cs : List Nat, H7 B = some (.lst (sV (cs.map fun c => (⟨#[c]⟩ : Str)))) ∧ cs.length = j ∧ (∀ c ∈ cs, 97 ≤ c ∧ c ≤ 122) ∧ (∀ c ∈ cs, c ≠ 113) ∧ Dr H7 d L C ∧ Kp d L H6 H7)
            ⟨[], upd_same, rfl, fun c h => (by cases h), fun c h => (by cases h), D6.new nB, kB⟩ (fun _ _ _ _ => trivial) (fun j x H7 H8 hj p y => ?_) (fun H7 p => ?_)
          · obtain ⟨cs, hB, hlc, hcs, hcx, D7, kp7⟩ := p
            obtain ⟨rfl, rfl⟩ := y
            refine ⟨rfl, .ref d, rfl, d, L, C, .str "abcxyz", rfl, D7, .inr ⟨"abcxyz", rfl, by decide +kernel, by decide +kernel, fun H9 c D9 kp9 hc => ?_⟩⟩
            have hB9 := kp9 _ _ hB bL.2.2 bL.1
            have hc2 : 97 ≤ c ∧ c ≤ 122 := abcxyz_ok c hc
            refine ⟨_, hB9, by rw [sizeLine_eq]; simp only [sV, List.length_map]; omega, cs ++ [c], ?_, by simp [hlc], fun c' hc' => ?_, fun c' hc' => ?_, D9.lst hB9 bL.1 bL.2.1 _, (kp7.trans kp9).at nB⟩
            · rw [upd_same, List.map_append]
              simp [sV]
            · rcases List.mem_append.mp hc' with h | h
              · exact hcs c' h
              · rw [List.mem_singleton.mp h]; exact hc2
            · rcases List.mem_append.mp hc' with h | h
              · exact hcx c' h
              · rw [List.mem_singleton.mp h]; exact abcxyz_nq c hc
          · obtain ⟨cs, hB, hlc, hcs, hcx, D7, kp7⟩ := p
            have el := join_letters cs
            refine ⟨"", B, cs.map fun c => (⟨#[c]⟩ : Str), rfl, rfl, .inl (.of hB), ?_, ?_⟩
            · have e1 : ((cs.map fun c => (⟨#[c]⟩ : Str)).map (·.length)).sum = cs.length := by
                rw [List.map_map]
                have e2 : ((fun x : Str => x.length) ∘ fun c : Nat => (⟨#[c]⟩ : Str)) = fun _ => 1 := by funext c; rfl
                rw [e2]
                clear hlc hcs hcx hB el
                induction cs with
                | nil => rfl
                | cons c r ih => rw [List.map_cons, List.sum_cons, ih, List.length_cons]; omega
              have e3 : (("" : Str)).length = 0 := by decide +kernel
              rw [e1, e3]
              omega
            · exact fin _ _ ⟨_, _, rfl, ⟨nameOk_tl el (by omega) (by omega) hcs, nq_letters el (by omega) hcx⟩, D7, ((k4.trans kp5).trans kp6).trans kp7, kp7 _ _ hm6 mL.2.2 mL.1, kp7 _ _ hf6 fL.2.2 fL.1⟩
        · exact fin _ _ ⟨w0, _, rfl, nw0, D5, k4.trans kp5, kp5 _ _ hm4 mL.2.2 mL.1, kp5 _ _ hf4 fL.2.2 fL.1⟩
    · obtain ⟨y4, y5, y6, y7, y8, y9, ws, rfl, D2, kp, hm, hf, hlen, nd, hok⟩ := p
      exact ⟨.ref fo, rfl, q H2 fo ws D2 kp nf0 fL.1 hf hlen nd hok⟩
end
end Kf

set_option Elab.async false
set_option linter.all false
set_option maxRecDepth 100000
set_option maxHeartbeats 2000000
namespace Kf
open PySem PySem.Spec PyProof.Rows L2 LamX NdefX
def unS : V → Str
  | .str z => z
  | _ => emptyS
theorem perm_sV {ys : List V} {l : List Str} (h : ys.Perm (sV l)) : ∃ l', ys = sV l' ∧ l'.Perm l := by
  refine ⟨ys.map unS, ?_, ?_⟩
  · have e : ∀ y ∈ ys, V.str (unS y) = y := fun y hy => by
      obtain ⟨z, _, rfl⟩ := List.mem_map.mp (h.mem_iff.mp hy)
      rfl
    unfold sV
    rw [List.map_map]
    exact (List.map_id' ys).symm.trans (List.map_congr_left fun y hy => (e y hy).symm)
  · have := h.map unS
    have e : (sV l).map unS = l := by
      unfold sV
      rw [List.map_map]
      exact List.map_id'' (fun _ => rfl) l
    rw [e] at this
    exact this
theorem Kp.sq {K : PySem.W.Frag} {d L a : Addr} {H H' : Hp} {xs : List V} {C : Addr} (kp : Kp d L H H') (D : Dr H d L C) (n : a ≠ L) (h : Sq K H a xs) : Sq K H' a xs := by
  rcases h with h | h
  · exact .inl (kp.seq D n h)
  · exact .inr (kp.kt D _ _ h)
theorem Kp.lst {d L a : Addr} {H H' : Hp} {xs : List V} {C : Addr} (kp : Kp d L H H') (D : Dr H d L C) (n : a ≠ L) (h : H a = some (.lst xs)) : H' a = some (.lst xs) := by
  obtain ⟨ls, cs, r, t, m, D⟩ := D
  exact kp _ _ h (ne_of h D.hd (by intro z; cases z)) n
section
variable {P : Program} {w : World} {K : PySem.W.Frag} {mg : Str → Option Value} {base : Heap}
def spSome (K : PySem.W.Frag) : Sp := fun vs H Q _ => ∃ d L C a b names, vs = [.ref d, .ref a, .int (b : Nat)] ∧ Dr H d L C ∧ a ≠ L ∧ Sq K H a (sV names) ∧ names.Nodup ∧ 1 ≤ names.length ∧ names.length ≤ 100 ∧ (∀ x ∈ names, StrOk x) ∧ 1 ≤ b ∧ b ≤ 10 ∧
  ∀ H' p l, Dr H' d L C → Kp d L H H' → SqT K H' p (sV l) → ChoiceOk l names → l.length ≤ b → Q (.ref p) H'
theorem ok_some {f : Addr} {fd : FuncData} (F : L2.Fun K "_law_some" "_law_some" s__law_some f fd) (T : Nm mg) (C__law_take : Cal P w K mg base 1 "_law_take" ["draw", "size"] spTake) (C__law_mixed : Cal P w K mg base 2 "_law_mixed" ["draw", "some"] (spMixed K)) : FnOk P w K mg base CX0 3 f fd ["draw", "labels", "bound"] (spSome K) := by
  refine F.ok sc__law_some (fun vs H Q E h => ?_) (fun cdv A outer s H vs Q E hr h => ?_)
  · obtain ⟨d, L, C, a, b, names, rfl, _⟩ := h
    rfl
  · obtain ⟨d, L, C, a, b, names, rfl, D, aL, h, nd, l1, l2, hs, b1, b2, q⟩ := h
    refine ⟨_, (pss_one (ps_ret (pe_callTy (call_tupQ (K := K) rfl) (by rfl) T.n_tuple (by decide +kernel) (pa_cons (pe_slice sl_list (pe_cal C__law_mixed (by decide) hr (by rfl) (pa_cons (pv 0) (pa_cons (pv 1) pa_nil))) po_none (po_some (pe_op op_add pe_int (pe_cal C__law_take (by decide) hr (by rfl) (pa_cons (pv 0) (pa_cons (pe_callB (call_min2 rfl) (by rfl) T.n_min (by decide +kernel) (pa_cons (pv 2) (pa_cons (pe_callB (call_lenK (K := K) rfl) (by rfl) T.n_len (by decide +kernel) (pa_cons (pv 1) pa_nil)) pa_nil))) pa_nil)))))) pa_nil)))), ?_⟩
    have hlen : (sV names).length = names.length := List.length_map ..
    refine ⟨.ref d, rfl, .ref a, rfl, d, L, C, a, sV names, rfl, D, h, fun v hv => ?_, by omega, fun H2 p ys D2 kp2 np hp pm pL => ?_⟩
    · obtain ⟨z, hz, rfl⟩ := List.mem_map.mp hv
      exact ite_str (hs z hz)
    obtain ⟨l', rfl, pm'⟩ := perm_sV pm
    have h2 := kp2.sq D aL h
    have len' : l'.length = names.length := pm'.length_eq
    refine ⟨.ref d, rfl, .int b, rfl, .ref a, rfl, a, _, rfl, h2, b, (sV names).length, rfl, d, L, C, _, rfl, D2, ?_, ?_, fun H3 k D3 kp3 h0 h1 => ?_⟩
    · split <;> omega
    · split <;> omega
    have hk : k < b ∧ k < names.length := by
      rw [hlen] at h1
      split at h1 <;> omega
    obtain ⟨j, rfl⟩ : ∃ j : Nat, k = (j : Int) := ⟨k.toNat, by omega⟩
    have hp3 := kp3.lst D2 pL hp
    refine ⟨1, _, rfl, rfl, 1 + (j : Int), rfl, p, _, rfl, .of hp3, fun c nc => ?_⟩
    have e1 : cutV (sV l') none (some (1 + (j : Int))) = sV (l'.take (1 + j)) := by
      have e : (1 + (j : Int)) = ((1 + j : Nat) : Int) := by omega
      rw [e, cut_to (by simp [sV]; omega)]
      simp [sV, List.map_take]
    rw [e1]
    have s4 : Same H3 (upd H3 c (.lst (sV (l'.take (1 + j))))) := Same.new nc
    refine ⟨c, _, rfl, .inl (.of upd_same), fun t H5 s5 ht => ?_⟩
    have s45 := s4.trans s5
    refine q H5 t (l'.take (1 + j)) (D3.same s45) ((kp2.trans kp3).trans (Same.kp s45)) ht ⟨?_, ?_, ?_, ?_⟩ ?_
    · intro e
      have h0 : (l'.take (1 + j)).length = 0 := by rw [e]; rfl
      rw [List.length_take] at h0
      omega
    · exact (pm'.nodup_iff.mpr nd).sublist (List.take_sublist ..)
    · exact fun x hx => pm'.mem_iff.mp (List.mem_of_mem_take hx)
    · rw [List.length_take]; omega
    · rw [List.length_take]; omega
/-! ### a gate -/
def spGate (K : PySem.W.Frag) : Sp := fun vs H Q _ => ∃ d L C nm a ps b ls, vs = [.ref d, .str nm, .ref a, .ref b] ∧ Dr H d L C ∧ a ≠ L ∧ Sq K H a (sV ps) ∧ ps.Nodup ∧ 1 ≤ ps.length ∧ ps.length ≤ 100 ∧ (∀ x ∈ ps, StrOk x) ∧ b ≠ L ∧ Sq K H b (sV ls) ∧ ls.Nodup ∧ 1 ≤ ls.length ∧ ls.length ≤ 100 ∧ (∀ x ∈ ls, StrOk x) ∧
  ∀ H' v g, Dr H' d L C → Kp d L H H' → GateAt K H' v g → g.name = nm → GateIn ps ls g → Q v H'
theorem ok_gate {f : Addr} {fd : FuncData} (F : L2.Fun K "_law_gate" "_law_gate" s__law_gate f fd) (T : Nm mg) (C__law_take : Cal P w K mg base 1 "_law_take" ["draw", "size"] spTake) (C__law_pick : Cal P w K mg base 2 "_law_pick" ["draw", "some"] (spPick2 K)) (C__law_mixed : Cal P w K mg base 2 "_law_mixed" ["draw", "some"] (spMixed K))
    (C__law_some : Cal P w K mg base 3 "_law_some" ["draw", "labels", "bound"] (spSome K)) : FnOk P w K mg base CX0 4 f fd ["draw", "name", "pieces", "labels"] (spGate K) := by
  refine F.ok sc__law_gate (fun vs H Q E h => ?_) (fun cdv A outer s H vs Q E hr h => ?_)
  · obtain ⟨d, L, C, nm, a, ps, b, ls, rfl, _⟩ := h
    rfl
  · obtain ⟨d, L, C, nm, a, ps, b, ls, rfl, D, aL, ha, nda, a1, a2, sa, bL, hb, ndb, b1, b2, sb, q⟩ := h
    refine ⟨_, (pss_cons (ps_set (i := 4) sc__law_gate.nd rfl (.inl rfl) (pe_cal C__law_pick (by decide) hr (by rfl) (pa_cons (pv 0) (pa_cons (pe_lst (pa_cons pe_str (pa_cons pe_str (pa_cons pe_str (pa_cons pe_str (pa_cons pe_str (pa_cons pe_str (pa_cons pe_str pa_nil)))))))) pa_nil))))
 (pss_cons (ps_if (PW.pt (pw_or (pt_cmpR op_eq (pv 4) pe_str (nomark _)) (pw_or1 (pt_cmpR op_lt (pe_callB (call_lenK (K := K) rfl) (by rfl) T.n_len (by decide +kernel) (pa_cons (pv 3) pa_nil)) pe_int (nomark _)))))
 (pss_one (ps_ret (pe_tup (pa_cons (pv 1) (pa_cons pe_str (pa_cons (pe_cal C__law_some (by decide) hr (by rfl) (pa_cons (pv 0) (pa_cons (pv 2) (pa_cons pe_int pa_nil)))) pa_nil))))))
 pss_nil)
 (pss_cons (ps_if (pt_cmpR op_eq (pv 4) pe_str (nomark _))
 (pss_one (ps_ret (pe_op op_catA (pe_tup (pa_cons (pv 1) (pa_cons pe_str pa_nil))) (pe_callTy (call_tupQ (K := K) rfl) (by rfl) T.n_tuple (by decide +kernel) (pa_cons (pe_slice sl_list (pe_cal C__law_mixed (by decide) hr (by rfl) (pa_cons (pv 0) (pa_cons (pv 3) pa_nil))) po_none (po_some pe_int)) pa_nil)))))
 pss_nil)
 (pss_cons (ps_set (i := 5) sc__law_gate.nd rfl (.inl rfl) (pe_cal C__law_some (by decide) hr (by rfl) (pa_cons (pv 0) (pa_cons (pv 3) (pa_cons pe_int pa_nil)))))
 (pss_cons (ps_if (pt_cmpR op_eq (pv 4) pe_str (nomark _))
 (pss_one (ps_ret (pe_tup (pa_cons (pv 1) (pa_cons pe_str (pa_cons (pe_op op_add pe_int (pe_cal C__law_take (by decide) hr (by rfl) (pa_cons (pv 0) (pa_cons (pe_callB (call_lenK (K := K) rfl) (by rfl) T.n_len (by decide +kernel) (pa_cons (pv 5) pa_nil)) pa_nil)))) (pa_cons (pv 5) pa_nil)))))))
 pss_nil)
 (pss_one (ps_ret (pe_tup (pa_cons (pv 1) (pa_cons (pv 4) (pa_cons (pv 5) pa_nil))))))))))), ?_⟩
    refine ⟨.ref d, rfl, by show 7 ≤ sizeLine; decide, fun o no => ?_⟩
    have s1 : Same H (upd H o (.lst (sV ["all", "any", "least", "before", "before", "spare", "spare"]))) := Same.new no
    have D1 := D.same s1
    refine ⟨d, L, C, .ref o, rfl, D1, .inl ⟨o, sV ["all", "any", "least", "before", "before", "spare", "spare"], rfl, (D.neL no).1, .inl (.of upd_same), by show 0 < 7; decide, by show 7 < 1000; decide, fun H2 x D2 kp2 hx => ?_⟩⟩
    obtain ⟨wd, hw, rfl⟩ := List.mem_map.mp hx
    have k2 := (Same.kp (d := d) (L := L) s1).trans kp2
    have ha2 := k2.sq D aL ha
    have hb2 := k2.sq D bL hb
    have hlen : (sV ls).length = ls.length := List.length_map ..
    -- spare, or too few labels
    refine gName_of ?_
    dsimp only
    refine tOr_pure (decide (wd = "spare")) (decide ((ls.length : Int) < 2)) (fun Q' q' => ?_) (fun _ Q' q' => ?_) ?_
    · refine ⟨.str wd, rfl, rfl, _, rfl, ?_⟩
      show Q' (decide (V.str wd = V.str "spare")) H2
      rw [decStr]
      exact q'
    · refine ⟨.ref b, rfl, b, _, rfl, hb2, _, 2, rfl, rfl, _, rfl, ?_⟩
      rw [hlen]
      exact q'
    refine ite2 (fun e => ?_) (fun e => ?_)
    · -- (name, 'spare', some)
      refine ⟨.str nm, rfl, .ref d, rfl, .ref a, rfl, d, L, C, a, 4, ps, rfl, D2, aL, ha2, nda, a1, a2, sa, by decide, by decide, fun H3 p l D3 kp3 hp ch _ => ⟨by show 3 ≤ sizeLine; decide, fun t nt => ?_⟩⟩
      have s4 : Same H3 (upd H3 t (.tup [.str nm, .str "spare", .ref p])) := Same.new nt
      exact q _ _ (.spare nm l) (D3.same s4) ((k2.trans kp3).trans (Same.kp s4)) ⟨t, p, rfl, .of upd_same, Same.sqt s4 hp⟩ rfl ch
    · have hno : ¬ wd = "spare" ∧ 2 ≤ ls.length := by
        simp only [Bool.or_eq_true, decide_eq_true_eq, not_or] at e
        exact ⟨e.1, by have := e.2; omega⟩
      refine ⟨.str wd, rfl, rfl, _, rfl, ?_⟩
      refine ite2 (fun e => ?_) (fun e => ?_)
      · -- (name, 'before') + two
        refine ⟨.str nm, rfl, by show 2 ≤ sizeLine; decide, fun t nt => ?_⟩
        have s3 : Same H2 (upd H2 t (.tup [.str nm, .str "before"])) := Same.new nt
        refine ⟨.ref d, rfl, .ref b, rfl, d, L, C, b, sV ls, rfl, D2.same s3, Same.sq s3 hb2, fun v hv => ?_, by omega, fun H4 p ys D4 kp4 np hp pm pL => ?_⟩
        · obtain ⟨z, hz, rfl⟩ := List.mem_map.mp hv
          exact ite_str (sb z hz)
        obtain ⟨l', rfl, pm'⟩ := perm_sV pm
        have len' : l'.length = ls.length := pm'.length_eq
        refine ⟨2, rfl, p, _, rfl, .of hp, fun c nc => ?_⟩
        have e1 : cutV (sV l') none (some 2) = sV (l'.take 2) := by
          have e := cut_to (xs := sV l') (i := 2) (by simp [sV]; omega)
          refine Eq.trans e ?_
          simp [sV, List.map_take]
        rw [e1]
        have s5 : Same H4 (upd H4 c (.lst (sV (l'.take 2)))) := Same.new nc
        refine ⟨c, _, rfl, .inl (.of upd_same), fun r H6 s6 hr6 => ?_⟩
        have s56 := s5.trans s6
        have ht6 : SqT K H6 t [.str nm, .str "before"] := Same.sqt s56 (kp4.kt (D2.same s3) _ _ (.of upd_same))
        obtain ⟨x, y, r2, el⟩ : ∃ x y r2, l' = x :: y :: r2 := by
          match l', len' with
          | x :: y :: r2, _ => exact ⟨x, y, r2, rfl⟩
          | [x], h => simp at h; omega
          | [], h => simp at h; omega
        subst el
        have hr7 : SqT K H6 r [.str x, .str y] := hr6
        refine ⟨t, r, _, _, rfl, rfl, ht6, hr7, by show 4 ≤ sizeLine; decide, fun z => by simp at z, fun _ z => by simp at z, fun _ _ u nu => ?_⟩
        have s7 : Same H6 (upd H6 u (.tup ([.str nm, .str "before"] ++ [.str x, .str y]))) := Same.new nu
        have nd2 : (x :: y :: r2).Nodup := pm'.nodup_iff.mpr ndb
        refine q _ _ (.before nm x y) ((D4.same s56).same s7) (((k2.trans (Same.kp s3)).trans kp4).trans (Same.kp (s56.trans s7))) ⟨u, rfl, .of upd_same⟩ rfl ⟨by simp, nd2.sublist (by simp), fun z hz => pm'.mem_iff.mp ?_, by show 2 ≤ 1000; decide⟩
        rcases List.mem_cons.mp hz with e | hz
        · rw [e]; exact List.mem_cons_self ..
        · rw [List.mem_singleton.mp hz]; exact List.mem_cons_of_mem _ (List.mem_cons_self ..)
      · have hnb : ¬ wd = "before" := by
          intro h
          rw [decStr, decide_eq_true h] at e
          exact e rfl
        refine ⟨.ref d, rfl, .ref b, rfl, d, L, C, b, 4, ls, rfl, D2, bL, hb2, ndb, b1, b2, sb, by decide, by decide, fun H3 p l D3 kp3 hp ch hl4 => ?_⟩
        have k3 := k2.trans kp3
        have l1 : 1 ≤ l.length := by
          cases l with
          | nil => exact absurd rfl ch.ne
          | cons _ _ => simp
        refine ⟨.str wd, rfl, rfl, _, rfl, ?_⟩
        refine ite2 (fun e => ?_) (fun e => ?_)
        · refine ⟨.str nm, rfl, .ref d, rfl, .ref p, rfl, p, _, rfl, .inr hp, d, L, C, _, rfl, D3, by simp [sV]; omega, by simp [sV]; omega, fun H4 k D4 kp4 h0 h1 => ⟨1, k, rfl, rfl, .ref p, rfl, by show 4 ≤ sizeLine; decide, fun t nt => ?_⟩⟩
          have s5 : Same H4 (upd H4 t (.tup [.str nm, .str "least", .int (1 + k), .ref p])) := Same.new nt
          have hk : k < (l.length : Int) := by simpa [sV] using h1
          exact q _ _ (.least nm (1 + k) l) (D4.same s5) ((k3.trans kp4).trans (Same.kp s5)) ⟨t, p, rfl, .of upd_same, Same.sqt s5 (kp4.kt D3 _ _ hp)⟩ rfl ⟨ch, by omega, by omega⟩
        · have hnl : ¬ wd = "least" := by
            intro h
            rw [decStr, decide_eq_true h] at e
            exact e rfl
          refine ⟨.str nm, rfl, .str wd, rfl, .ref p, rfl, by show 3 ≤ sizeLine; decide, fun t nt => ?_⟩
          have s5 : Same H3 (upd H3 t (.tup [.str nm, .str wd, .ref p])) := Same.new nt
          have hwd : wd = "all" ∨ wd = "any" := by
            simp only [List.mem_cons, List.not_mem_nil, or_false] at hw
            rcases hw with h | h | h | h | h | h | h
            · exact .inl h
            · exact .inr h
            · exact absurd h hnl
            · exact absurd h hnb
            · exact absurd h hnb
            · exact absurd h hno.1
            · exact absurd h hno.1
          rcases hwd with e | e
          · subst e
            exact q _ _ (.all nm l) (D3.same s5) (k3.trans (Same.kp s5)) ⟨t, p, rfl, .of upd_same, Same.sqt s5 hp⟩ rfl ch
          · subst e
            exact q _ _ (.any nm l) (D3.same s5) (k3.trans (Same.kp s5)) ⟨t, p, rfl, .of upd_same, Same.sqt s5 hp⟩ rfl ch
end
end Kf

set_option Elab.async false
set_option linter.all false
set_option maxRecDepth 100000
set_option maxHeartbeats 2000000
namespace Kf
open PySem PySem.Spec PyProof.Rows L2
section
variable {X : Cx}
/-- d.update({k: y}) -/
def rUpd1 : V → List V → Hp → VK → Prop := fun x xs H Q => ∃ (a b : Addr) (kvs : List (Key × V)) (k : Key) (y : V), x = .ref a ∧ xs = [.ref b] ∧ H a = some (.dK kvs) ∧ H b = some (.dK [(k, y)]) ∧ a ≠ b ∧ kvs.length < sizeLine ∧ Q .non (upd H a (.dK (putK kvs k y)))
theorem mt_update1 : MtM X "dict.update" rUpd1 := by
  intro pins s σ H x xs v us Q I rx rs h
  obtain ⟨a, b, kvs, k, y, rfl, rfl, ha, hb, hab, hl, q⟩ := h
  cases (show v = Value.ref a from rx)
  obtain ⟨u, rfl, ru⟩ := rs.one
  cases (show u = Value.ref b from ru)
  obtain ⟨z, hd, vs, rel, dd⟩ := dk_of I.hok ha
  obtain ⟨z2, hd2, vs2, rel2, dd2⟩ := dk_of I.hok hb
  obtain ⟨k2, u2, e2, ek, ru2⟩ : ∃ k2 u2, vs2 = [(k2, u2)] ∧ k = k2 ∧ RelV y u2 := by
    unfold KV at rel2
    cases rel2 with
    | cons r t =>
      cases t
      exact ⟨_, _, rfl, r.1, r.2⟩
  subst e2 ek
  have hz : vs.length < sizeLine := by rw [← rel.length]; exact hl
  have hl2 : (putK kvs k y).length ≤ sizeLine := by have := length_putK kvs k y; omega
  refine call_meetsIn PySem.F.slot_dict_update dd.typeIs PySem.F.entry_dict_update (PySem.F.args_dict_update_2 _ _) (meets_dict_update (mixKind X.prog X.w) a b hab hd2) ⟨vs, [(k, u2)], dd, dd2, by show vs.length + 1 ≤ sizeLine; omega, fun h' dd' _ hs => ?_⟩
  have he : ∃ q, h'.get? a = some q := let ⟨q, _, _, hq, _⟩ := dd'; ⟨q, hq⟩
  exact ⟨.non, _, d_write (t' := s.toks) I (by rw [ha]; exact True.intro) hs he (dk_new hl2 hd (rel.put k ru2) dd'), rfl, q⟩
end
end Kf

set_option Elab.async false
set_option linter.all false
set_option maxRecDepth 100000
set_option maxHeartbeats 2000000
namespace Kf
open PySem PySem.Spec PyProof.Rows L2 LamX NdefX
/-! ## the law's own account -/
def seat1 (fl : List Str) (us : Uses) : G → Uses
  | .spare n ps => if (getA us n).getD emptyS = emptyS ∨ (getA us n).getD emptyS ∈ fl then setA (setA us n emptyS) n ((freeOf fl (setA us n emptyS) ps).headD emptyS) else us
  | _ => us
def seatU (fl : List Str) (us : Uses) (gs : List G) : Uses := gs.foldl (seat1 fl) us
theorem seat1_le (fl : List Str) (us : Uses) (g : G) : (seat1 fl us g).length ≤ us.length + 1 := by
  cases g with
  | spare n ps =>
    show (if _ then _ else _ : Uses).length ≤ _
    split
    · have h : KeyIn (setA us n emptyS) n := keyIn_set (.inr rfl)
      rw [setA_len h]
      exact setA_le ..
    · omega
  | _ => exact Nat.le_succ _
def wkv (g u s : Addr) (c : Int) : List (Key × V) := [(.inr "gone", .ref g), (.inr "uses", .ref u), (.inr "since", .ref s), (.inr "count", .int c)]
theorem wk_gone {g u s : Addr} {c : Int} : valV (wkv g u s c) (.inr "gone") = some (.ref g) := by with_unfolding_all rfl
theorem wk_uses {g u s : Addr} {c : Int} : valV (wkv g u s c) (.inr "uses") = some (.ref u) := by with_unfolding_all rfl
theorem wk_since {g u s : Addr} {c : Int} : valV (wkv g u s c) (.inr "since") = some (.ref s) := by with_unfolding_all rfl
theorem wk_count {g u s : Addr} {c : Int} : valV (wkv g u s c) (.inr "count") = some (.int c) := by with_unfolding_all rfl
theorem wk_put {g u s s' : Addr} {c : Int} : putK (wkv g u s c) (.inr "since") (.ref s') = wkv g u s' c := by with_unfolding_all rfl
structure WAt (H : Hp) (w g u s : Addr) (c : Int) (fl : List Str) (us : Uses) (sn : List (Str × Int)) : Prop where
  hw : H w = some (.dK (wkv g u s c))
  hg : H g = some (.lst (sV fl))
  hu : H u = some (.dK (dS V.str us))
  hs : H s = some (.dK (dS V.int sn))
  wu : w ≠ u
  su : s ≠ u
section
variable {H : Hp} {w g u s : Addr} {c : Int} {fl : List Str} {us : Uses} {sn : List (Str × Int)}
theorem WAt.gG (W : WAt H w g u s c fl us sn) : DGet H w (.str "gone") (some (.ref g)) := by have q := DGet.k (k := .inr "gone") W.hw; rw [wk_gone] at q; exact q
theorem WAt.gU (W : WAt H w g u s c fl us sn) : DGet H w (.str "uses") (some (.ref u)) := by have q := DGet.k (k := .inr "uses") W.hw; rw [wk_uses] at q; exact q
theorem WAt.gS (W : WAt H w g u s c fl us sn) : DGet H w (.str "since") (some (.ref s)) := by have q := DGet.k (k := .inr "since") W.hw; rw [wk_since] at q; exact q
theorem WAt.gC (W : WAt H w g u s c fl us sn) : DGet H w (.str "count") (some (.int c)) := by have q := DGet.k (k := .inr "count") W.hw; rw [wk_count] at q; exact q
theorem WAt.same {H' : Hp} (W : WAt H w g u s c fl us sn) (sm : Same H H') : WAt H' w g u s c fl us sn := ⟨sm _ _ W.hw, sm _ _ W.hg, sm _ _ W.hu, sm _ _ W.hs, W.wu, W.su⟩
theorem WAt.put {us' : Uses} (W : WAt H w g u s c fl us sn) : WAt (upd H u (.dK (dS V.str us'))) w g u s c fl us' sn :=
  ⟨by rw [upd_ne W.wu]; exact W.hw, by rw [upd_ne (ne_of W.hg W.hu (by intro z; cases z))]; exact W.hg, upd_same, by rw [upd_ne W.su]; exact W.hs, W.wu, W.su⟩
end
/-- all but u stays -/
def Ku (u : Addr) (H H' : Hp) : Prop := ∀ b o, H b = some o → b ≠ u → H' b = some o
theorem Same.ku {u : Addr} {H H' : Hp} (s : Same H H') : Ku u H H' := fun b o h _ => s b o h
theorem Ku.trans {u : Addr} {H H1 H2 : Hp} (a : Ku u H H1) (b : Ku u H1 H2) : Ku u H H2 := fun c o h n => b c o (a c o h n) n
theorem Ku.at {u : Addr} {H : Hp} {o : HO} : Ku u H (upd H u o) := fun b x h n => by rw [upd_ne n]; exact h
theorem Ku.kt {K : PySem.W.Frag} {u : Addr} {H H' : Hp} {kvs : List (Key × V)} (k : Ku u H H') (hu : H u = some (.dK kvs)) : KT K H H' := by
  intro a xs h
  rcases h with (h | ⟨o, h⟩) | h
  · exact .inl (.inl (k _ _ h (ne_of h hu (by intro z; cases z))))
  · exact .inl (.inr ⟨o, k _ _ h (ne_of h hu (by intro z; cases z))⟩)
  · exact .inr h
theorem Ku.sql {K : PySem.W.Frag} {u a : Addr} {H H' : Hp} {xs : List V} {kvs : List (Key × V)} (k : Ku u H H') (hu : H u = some (.dK kvs)) (h : SqL K H a xs) : SqL K H' a xs := by
  rcases h with (h | ⟨o, h⟩) | h
  · exact .inl (.inl (k _ _ h (ne_of h hu (by intro z; cases z))))
  · exact .inl (.inr ⟨o, k _ _ h (ne_of h hu (by intro z; cases z))⟩)
  · exact .inr h
theorem Ku.sq {K : PySem.W.Frag} {u a : Addr} {H H' : Hp} {xs : List V} {kvs : List (Key × V)} (k : Ku u H H') (hu : H u = some (.dK kvs)) (h : Sq K H a xs) : Sq K H' a xs := h.elim (fun h => .inl (k.sql hu h)) fun h => .inr (k.kt hu _ _ h)
theorem Ku.sqb {b : Bool} {K : PySem.W.Frag} {u a : Addr} {H H' : Hp} {xs : List V} {kvs : List (Key × V)} (k : Ku u H H') (hu : H u = some (.dK kvs)) (h : Sqb b K H a xs) : Sqb b K H' a xs := by
  cases b with
  | true => exact k.sql hu h
  | false => exact k.kt hu _ _ h
theorem dp1 {k : Key} {v : V} : mergeK [] [(k, v)] = [(k, v)] := by simp [mergeK, putK]
section
variable {P : Program} {w : World} {K : PySem.W.Frag} {mg : Str → Option Value} {base : Heap}
def spSeat (K : PySem.W.Frag) : Sp := fun vs H Q _ => ∃ m ww kvs ga ys gs g u s c fl us sn, vs = [.ref m, .ref ww] ∧ H m = some (.dK kvs) ∧ valV kvs (.inr "gates") = some (.ref ga) ∧ m ≠ u ∧ Sq K H ga ys ∧ Each (GateAt K H) ys gs ∧ WAt H ww g u s c fl us sn ∧ us.length + gs.length ≤ 500 ∧ fl.length ≤ 500 ∧ (∀ n ps, G.spare n ps ∈ gs → ps.length ≤ 500) ∧
  ∀ H', Ku u H H' → WAt H' ww g u s c fl (seatU fl us gs) sn → Q .non H'
theorem ok_seat {f : Addr} {fd : FuncData} {k : Nat} (F : L2.Fun K "_law_seat" "_law_seat" s__law_seat f fd) (T : Nm mg) : FnOk P w K mg base CX0 (k + 1) f fd ["m", "w"] (spSeat K) := by
  refine F.ok sc__law_seat (fun vs H Q E h => ?_) (fun cdv A outer s H vs Q E hr h => ?_)
  · obtain ⟨m, ww, kvs, ga, ys, gs, g, u, s, c, fl, us, sn, rfl, _⟩ := h
    rfl
  · obtain ⟨m, ww, kvs, ga, ys, gs, g, u, s', c, fl, us, sn, rfl, hm, hga, mu, h, he, W, hl, hfl, hpl, q⟩ := h
    have hu := hu_of hr
    have el := he.1
    refine ⟨_, (pss_one (ps_for PassesOwn.never rfl (pi_sq (pe_dget hu (pv 0) pe_str (fun _ _ => rfl))) (pg_name (i := 2) sc__law_seat.nd rfl (.inl rfl))
 (pss_one (ps_if (PW.pt (pw_and (pt_cmpR op_eq (pe_ix (ix_sqK (K := K) rfl) (pv 2) pe_int (fun _ _ => rfl)) pe_str (nomark _)) (pw_and1 (pt_cmpR (op_inK (K := K) rfl) (pe_dget2 hu (pe_dget hu (pv 1) pe_str (fun _ _ => rfl)) (pe_ix (ix_sqK (K := K) rfl) (pv 2) pe_int (fun _ _ => rfl)) pe_str ⟨rfl, rfl, rfl, rfl⟩) (pe_op op_cat (pe_lst (pa_cons pe_str pa_nil)) (pe_dget hu (pv 1) pe_str (fun _ _ => rfl))) (by with_unfolding_all rfl)))))
 (pss_cons (ps_expr (pe_bm PySem.F.plainAttrs_dict PySem.F.slot_dict_update PySem.F.type_dict_update mt_update1 (pe_dget hu (pv 1) pe_str (fun _ _ => rfl)) (pa_cons (pe_disp (pps_cons (pe_ix (ix_sqK (K := K) rfl) (pv 2) pe_int (fun _ _ => rfl)) pe_str pps_nil) (by rfl) (by rfl) (fun z => by cases z) (by decide)) pa_nil)))
 (pss_cons (ps_setLc (i := 3) (own := [("part", 4)]) (g := gName 4) (by rfl) sc__law_seat.nd rfl rfl (sw_true rfl rfl rfl (by decide +kernel)) (pi_sq (pe_ix (ix_sqK (K := K) rfl) (pv 2) pe_int (fun _ _ => rfl))) (blkOk_by (own := [("part", 4)]) (N := ["m", "w", "gate", "free", "part"]) (sc := defScope s__law_seat) (by decide +kernel)) (fun _ _ _ _ _ => pg_name (i := 4) sc__law_seat.nd rfl (.inl rfl)) (fun _ _ _ _ _ => pts_one (PW.pt (pw_and (pt_cmpR (op_notInK (K := K) rfl) (pv 4) (pe_dget hu (pv 1) pe_str (fun _ _ => rfl)) (by with_unfolding_all rfl)) (pw_and1 (pt_cmpR (op_notInK (K := K) rfl) (pv 4) (pe_listVals rfl (pe_dget hu (pv 1) pe_str (fun _ _ => rfl)) (by rfl) T.n_list (by decide +kernel)) (by with_unfolding_all rfl)))))) (fun _ _ _ _ _ => (pv 4)))
 (pss_one (ps_expr (pe_bm PySem.F.plainAttrs_dict PySem.F.slot_dict_update PySem.F.type_dict_update mt_update1 (pe_dget hu (pv 1) pe_str (fun _ _ => rfl)) (pa_cons (pe_disp (pps_cons (pe_ix (ix_sqK (K := K) rfl) (pv 2) pe_int (fun _ _ => rfl)) (pe_ix ix_list (pe_op op_cat (pv 3) (pe_lst (pa_cons pe_str pa_nil))) pe_int (fun _ _ => rfl)) pps_nil) (by rfl) (by rfl) (fun z => by cases z) (by decide)) pa_nil))))))
 pss_nil)))), ?_⟩
    have gm : DGet H m (.str "gates") (some (.ref ga)) := by
      have q := DGet.k (k := .inr "gates") hm
      rw [hga] at q
      exact q
    obtain ⟨b, hb⟩ := h.b
    refine ⟨.ref m, rfl, m, _, rfl, gm, ga, b, rfl, ⟨_, hb⟩, for_it (walk_sq (xs := ys)) (fun i σ H2 => ∃ y2 y3 y4, σ = [some (.ref m), some (.ref ww), y2, y3, y4] ∧ Ku u H H2 ∧ WAt H2 ww g u s' c fl (seatU fl us (gs.take i)) sn) ⟨_, _, _, rfl, fun _ _ h _ => h, W⟩ (fun i σ H2 hi p => ?_) (fun i x σ H2 H3 hi p y => ?_) (fun σ H2 p => ?_)⟩
    · obtain ⟨_, _, _, _, ku, _⟩ := p
      exact ku.sqb W.hu hb
    · obtain ⟨y2, y3, y4, rfl, ku, W2⟩ := p
      obtain ⟨rfl, hx⟩ := y
      obtain ⟨gt, hg, r⟩ := he.2 i x hx
      have r := GateAt.kt (ku.kt W.hu) r
      have hmem := List.mem_of_getElem? hg
      have suc : seatU fl us (gs.take (i + 1)) = seat1 fl (seatU fl us (gs.take i)) gt := fold_succ (seat1 fl) us hg
      obtain ⟨t, rest, rfl, ht, _⟩ := r.cut
      have hlen : (seatU fl us (gs.take i)).length ≤ 500 := by
        have h1 := fold_le (seat1_le fl) (gs.take i) us
        have h2 : (gs.take i).length ≤ gs.length := by rw [List.length_take]; omega
        show ((gs.take i).foldl (seat1 fl) us).length ≤ 500
        omega
      refine ⟨.ref t, rfl, t, _, 1, .str gt.word, rfl, rfl, .inr ht, at1, rfl, _, rfl, ?_⟩
      have sk : seat1 fl (seatU fl us (gs.take i)) gt = seatU fl us (gs.take i) → WAt H3 ww g u s' c fl (seatU fl us (gs.take (i + 1))) sn := fun e => by rw [suc, e]; exact W2
      cases gt with
      | all n ins => exact iteN (litNe ne_all_spare) ⟨_, _, _, rfl, ku, sk rfl⟩
      | any n ins => exact iteN (litNe ne_any_spare) ⟨_, _, _, rfl, ku, sk rfl⟩
      | least n m ins => exact iteN (litNe ne_least_spare) ⟨_, _, _, rfl, ku, sk rfl⟩
      | before n x y => exact iteN (litNe ne_before_spare) ⟨_, _, _, rfl, ku, sk rfl⟩
      | spare nm ps =>
        refine iteD rfl ?_
        obtain ⟨t', pu, e, ht', hpu⟩ := r
        cases e
        have hpsl := hpl nm ps hmem
        have gget : ∀ H5, Same H3 H5 → DGet H5 u (.str nm) ((getA (seatU fl us (gs.take i)) nm).map V.str) := fun H5 s5 => by
          have q := DGet.k (k := .inr nm) (s5 _ _ W2.hu)
          rw [valV_dS] at q
          exact q
        refine ⟨.ref ww, rfl, ww, .ref u, rfl, W2.gU, u, rfl, .inl ⟨_, .inl W2.hu⟩, .ref t, rfl, t, _, 0, .str nm, rfl, rfl, .inr ht', rfl, _, gget H3 (Same.refl _), ?_⟩
        refine ⟨by show 1 ≤ sizeLine; decide, fun l nl => ?_⟩
        have s4 : Same H3 (upd H3 l (.lst (sV [emptyS]))) := Same.new nl
        refine ⟨.ref ww, rfl, ww, .ref g, rfl, (W2.same s4).gG, l, g, _, _, rfl, rfl, upd_same, s4 _ _ W2.hg, by rw [sizeLine_eq]; simp [sV]; omega, fun p np => ?_⟩
        have s5 := s4.trans (Same.new (o := .lst (sV [emptyS] ++ sV fl)) np)
        have ez : (((getA (seatU fl us (gs.take i)) nm).map V.str).getD (V.str ("" : Str))) = V.str ((getA (seatU fl us (gs.take i)) nm).getD emptyS) := by
          cases getA (seatU fl us (gs.take i)) nm <;> rfl
        rw [ez]
        refine ⟨p, sV (emptyS :: fl), rfl, .inl (.of upd_same), rfl, flat_sV _, decide ((getA (seatU fl us (gs.take i)) nm).getD emptyS ∈ emptyS :: fl), by show V.bl (inV _ (sV _)) = _; rw [inV_sV], ite2 (fun e => ?_) (fun e => ?_)⟩
        · have hyes : (getA (seatU fl us (gs.take i)) nm).getD emptyS = emptyS ∨ (getA (seatU fl us (gs.take i)) nm).getD emptyS ∈ fl := by
            have := of_decide_eq_true e
            rcases List.mem_cons.mp this with h | h
            · exact .inl h
            · exact .inr h
          have W5 := W2.same s5
          have ht5 := Same.sqt s5 ht'
          refine ⟨.ref ww, rfl, ww, .ref u, rfl, W5.gU, .inr (.inr (.inl ⟨rfl, .inl ⟨_, W5.hu⟩⟩)), fun d nd => ?_⟩
          have s6 := s5.trans (Same.new (o := .dK []) nd)
          refine ⟨.ref t, rfl, t, _, 0, .str nm, rfl, rfl, .inr (Same.sqt s6 ht'), rfl, upd_same, [(.inr nm, .str emptyS)], rfl, by show 1 ≤ 15; decide, ?_⟩
          rw [dp1]
          have s7 : Same H3 (upd (upd _ d (.dK [])) d (.dK [(.inr nm, .str emptyS)])) := Same.at s6 (s5.free nd)
          have W7 := W2.same s7
          have nud : u ≠ d := ne_of_none W5.hu nd
          refine ⟨u, d, _, .inr nm, .str emptyS, rfl, rfl, W7.hu, upd_same, nud, small1000 (by rw [dS_len]; omega), ?_⟩
          rw [putK_dS V.str]
          have W8 := W7.put (us' := setA (seatU fl us (gs.take i)) nm emptyS)
          have ku8 : Ku u H (upd _ u (.dK (dS V.str (setA (seatU fl us (gs.take i)) nm emptyS)))) := (ku.trans (Same.ku s7)).trans Ku.at
          have kt8 := (Same.kt s7 (K := K)).trans ((Ku.at (u := u) (o := .dK (dS V.str (setA (seatU fl us (gs.take i)) nm emptyS)))).kt W7.hu)
          have ht8 := kt8 _ _ ht'
          have hpu8 := kt8 _ _ hpu
          obtain ⟨H8, eH8⟩ : ∃ H8, H8 = upd (upd (upd (upd (upd H3 l (.lst (sV [emptyS]))) p (.lst (sV [emptyS] ++ sV fl))) d (.dK [])) d (.dK [(.inr nm, .str emptyS)])) u (.dK (dS V.str (setA (seatU fl us (gs.take i)) nm emptyS))) := ⟨_, rfl⟩
          have hkey : KeyIn (setA (seatU fl us (gs.take i)) nm emptyS) nm := keyIn_set (.inr rfl)
          have l8 : (setA (seatU fl us (gs.take i)) nm emptyS).length ≤ 501 := Nat.le_trans (setA_le ..) (by omega)
          -- free
          refine ⟨.ref t, rfl, t, _, 2, .ref pu, rfl, rfl, .inr ht8, rfl, pu, false, rfl, ⟨_, hpu8⟩, fun D nD => ?_⟩
          refine lc_it (walk_sq (xs := sV ps)) (LP _ D fun j => sV (freeOf fl (setA (seatU fl us (gs.take i)) nm emptyS) (ps.take j))) (LP.zero nD rfl) (fun _ _ _ p => Same.sqb (b := false) p.sm hpu8) (fun j x H9 H10 hj p y => ?_) (fun H9 p => ?_)
          · obtain ⟨rfl, hx⟩ := y
            have hj2 : j < ps.length := by simpa [sV] using hj
            have hx2 : (sV ps)[j]? = some (.str ps[j]) := by simp [sV, hj2]
            obtain rfl : x = .str ps[j] := Option.some.inj (hx.symm.trans hx2)
            have eT : ps.take (j + 1) = ps.take j ++ [ps[j]] := by rw [List.take_add_one, List.getElem?_eq_getElem hj2]; rfl
            have W10 := W8.same p.sm
            have eF : freeOf fl (setA (seatU fl us (gs.take i)) nm emptyS) (ps.take (j + 1)) = freeOf fl (setA (seatU fl us (gs.take i)) nm emptyS) (ps.take j) ++ (if (!decide (ps[j] ∈ fl) && !decide (ps[j] ∈ (setA (seatU fl us (gs.take i)) nm emptyS).map (·.2))) = true then [ps[j]] else []) := by
              unfold freeOf
              rw [eT, List.filter_append, filter_one]
            refine ⟨rfl, ?_⟩
            refine ⟨.str ps[j], rfl, .ref ww, rfl, ww, .ref g, rfl, W10.gG, g, _, rfl, .inl (.of W10.hg), rfl, flat_sV _, !decide (ps[j] ∈ fl), by show V.bl (!inV (.str ps[j]) (sV fl)) = _; rw [inV_sV], ?_⟩
            have fin : ∀ H11 : Hp, Same H10 H11 → (if (!decide (ps[j] ∈ fl) && !decide (ps[j] ∈ (setA (seatU fl us (gs.take i)) nm emptyS).map (·.2))) = true then ∃ acc, H11 D = some (.lst acc) ∧ acc.length < sizeLine ∧ LP _ D (fun j => sV (freeOf fl (setA (seatU fl us (gs.take i)) nm emptyS) (ps.take j))) (j + 1) (upd H11 D (.lst (acc ++ [.str ps[j]]))) else LP _ D (fun j => sV (freeOf fl (setA (seatU fl us (gs.take i)) nm emptyS) (ps.take j))) (j + 1) H11) := fun H11 s11 => by
              refine ite2 (fun e => ?_) (fun e => ?_)
              · refine p.put nD s11 ?_ ?_
                · rw [eF, if_pos e]
                  simp [sV]
                · rw [sizeLine_eq]
                  have : (freeOf fl (setA (seatU fl us (gs.take i)) nm emptyS) (ps.take j)).length ≤ (ps.take j).length := List.length_filter_le ..
                  rw [List.length_take] at this
                  simp only [sV, List.length_map]
                  omega
              · refine p.skip s11 ?_
                rw [eF, if_neg e]
                simp
            cases hfail : decide (ps[j] ∈ fl) with
            | true =>
              have q := fin H10 (Same.refl _)
              rw [hfail] at q
              exact iteF (show (if false = true then _ else _ : Prop) from iteF (by simpa using q))
            | false =>
              refine iteT ?_
              refine ⟨.str ps[j], rfl, .ref ww, rfl, ww, .ref u, rfl, W10.gU, u, _, rfl, W10.hu, fun L nL => ?_⟩
              rw [dS_vals]
              have s11 : Same H10 (upd H10 L (.lst (sV ((setA (seatU fl us (gs.take i)) nm emptyS).map (·.2))))) := Same.new nL
              refine ⟨L, sV ((setA (seatU fl us (gs.take i)) nm emptyS).map (·.2)), rfl, .inl (.of upd_same), rfl, flat_sV _, !decide (ps[j] ∈ (setA (seatU fl us (gs.take i)) nm emptyS).map (·.2)), by show V.bl (!inV (.str ps[j]) (sV _)) = _; rw [inV_sV], ?_⟩
              have q := fin _ s11
              rw [hfail] at q
              simp only [Bool.not_false, Bool.true_and] at q
              refine ite2 (fun e => ?_) (fun e => ?_)
              · rw [if_pos e] at q
                exact ⟨.str ps[j], rfl, q⟩
              · rw [if_neg e] at q
                exact q
          · have hD : H9 D = some (.lst (sV (freeOf fl (setA (seatU fl us (gs.take i)) nm emptyS) ps))) := by
              rw [p.at_]
              simp [sV, List.take_of_length_le]
            have W9 := W8.same p.sm
            have ku9 := ku8.trans (Same.ku p.sm)
            have ht9 := Same.sqt p.sm ht8
            have hfl : (freeOf fl (setA (seatU fl us (gs.take i)) nm emptyS) ps).length ≤ ps.length := List.length_filter_le ..
            refine ⟨.ref ww, rfl, ww, .ref u, rfl, W9.gU, .inr (.inr (.inl ⟨rfl, .inl ⟨_, W9.hu⟩⟩)), fun e ne => ?_⟩
            have s10 : Same H9 (upd H9 e (.dK [])) := Same.new ne
            refine ⟨.ref t, rfl, t, _, 0, .str nm, rfl, rfl, .inr (Same.sqt s10 ht9), rfl, .ref D, rfl, by show 1 ≤ sizeLine; decide, fun a na => ?_⟩
            have s11 := s10.trans (Same.new (o := .lst (sV [emptyS])) na)
            refine ⟨D, a, _, _, rfl, rfl, s11 _ _ hD, upd_same, by rw [sizeLine_eq]; simp [sV]; omega, fun b2 nb2 => ?_⟩
            have s12 := s11.trans (Same.new (o := .lst (sV (freeOf fl (setA (seatU fl us (gs.take i)) nm emptyS) ps) ++ sV [emptyS])) nb2)
            have e0 : atI (sV (freeOf fl (setA (seatU fl us (gs.take i)) nm emptyS) ps) ++ sV [emptyS]) 0 = some (.str ((freeOf fl (setA (seatU fl us (gs.take i)) nm emptyS) ps).headD emptyS)) := by
              cases freeOf fl (setA (seatU fl us (gs.take i)) nm emptyS) ps with
              | nil => exact at0
              | cons x r => exact at0
            have he11 : (upd (upd H9 e (.dK [])) a (.lst (sV [emptyS]))) e = some (.dK []) := by rw [upd_ne (ne_of_none upd_same na), upd_same]
            have he12 : (upd (upd (upd H9 e (.dK [])) a (.lst (sV [emptyS]))) b2 (.lst (sV (freeOf fl (setA (seatU fl us (gs.take i)) nm emptyS) ps) ++ sV [emptyS]))) e = some (.dK []) := by rw [upd_ne (ne_of_none he11 nb2)]; exact he11
            refine ⟨b2, _, 0, _, rfl, rfl, .of upd_same, e0, he12, [(.inr nm, .str ((freeOf fl (setA (seatU fl us (gs.take i)) nm emptyS) ps).headD emptyS))], rfl, by show 1 ≤ 15; decide, ?_⟩
            rw [dp1]
            have s13 : Same H9 (upd (upd (upd (upd H9 e (.dK [])) a (.lst (sV [emptyS]))) b2 (.lst (sV (freeOf fl (setA (seatU fl us (gs.take i)) nm emptyS) ps) ++ sV [emptyS]))) e (.dK [(.inr nm, .str ((freeOf fl (setA (seatU fl us (gs.take i)) nm emptyS) ps).headD emptyS))])) := Same.at s12 ne
            have W13 := W9.same s13
            refine ⟨u, e, _, .inr nm, .str ((freeOf fl (setA (seatU fl us (gs.take i)) nm emptyS) ps).headD emptyS), rfl, rfl, W13.hu, upd_same, ne_of_none W9.hu ne, small1000 (by rw [dS_len]; omega), ?_⟩
            rw [putK_dS V.str]
            refine ⟨_, _, _, rfl, (ku9.trans (Same.ku s13)).trans Ku.at, ?_⟩
            have e1 : seatU fl us (gs.take (i + 1)) = setA (setA (seatU fl us (gs.take i)) nm emptyS) nm ((freeOf fl (setA (seatU fl us (gs.take i)) nm emptyS) ps).headD emptyS) := by
              rw [suc]
              show (if _ then _ else _ : Uses) = _
              rw [if_pos hyes]
            rw [e1]
            exact W13.put
        · have hno : ¬ ((getA (seatU fl us (gs.take i)) nm).getD emptyS = emptyS ∨ (getA (seatU fl us (gs.take i)) nm).getD emptyS ∈ fl) := by
            intro h
            refine e (decide_eq_true ?_)
            rcases h with h | h
            · rw [h]; exact List.mem_cons_self ..
            · exact List.mem_cons_of_mem _ h
          have e1 : seatU fl us (gs.take (i + 1)) = seatU fl us (gs.take i) := by
            rw [suc]
            show (if _ then _ else _ : Uses) = _
            rw [if_neg hno]
          refine ⟨_, _, _, rfl, ku.trans (Same.ku s5), ?_⟩
          rw [e1]
          exact W2.same s5
    · obtain ⟨_, _, _, rfl, ku, W2⟩ := p
      rw [el, List.take_length] at W2
      exact q _ ku W2
end
end Kf

set_option Elab.async false
set_option linter.all false
set_option maxRecDepth 100000
set_option maxHeartbeats 2000000
namespace Kf
open PySem PySem.Spec PyProof.Rows L2 LamX NdefX
def lawT (us : Uses) (sn : List (Str × Int)) (c : Int) (tr : Tr) : G → Bool
  | .before _ x y => lookT tr x && (lookT tr y && decide ((getA sn x).getD c < (getA sn y).getD c))
  | g => gTruth tr us g
theorem not_false_in : ∀ l : List Bool, (!inV (.bl false) (l.map V.bl)) = l.all id
  | [] => rfl
  | b :: r => by
    have ih := not_false_in r
    unfold inV at ih ⊢
    rw [List.map_cons, List.any_cons, List.all_cons, ← ih]
    cases b <;> simp [eqV]
theorem flat_bl : ∀ l : List Bool, (l.map V.bl).all flatV = true
  | [] => rfl
  | b :: r => by
    show (flatV (.bl b) && (r.map V.bl).all flatV) = true
    rw [flat_bl r]
    rfl
theorem any_len {α : Type} (f : α → Bool) : ∀ l : List α, decide (1 ≤ ((l.filter f).length : Int)) = l.any f
  | [] => by simp
  | x :: r => by
    by_cases h : f x = true
    · rw [List.filter_cons, if_pos h, List.any_cons, h]
      simp
      omega
    · rw [List.filter_cons, if_neg h, List.any_cons, any_len f r]
      simp [h]
section
variable {P : Program} {w : World} {K : PySem.W.Frag} {mg : Str → Option Value} {base : Heap}
def ones (n : Nat) : List V := List.replicate n (.int 1)
def spLawTruth (K : PySem.W.Frag) : Sp := fun vs H Q _ => ∃ ww v f g u s c fl us sn tr gt, vs = [.ref ww, v, .ref f] ∧ WAt H ww g u s c fl us sn ∧ GateAt K H v gt ∧ H f = some (.dK (dS V.bl tr)) ∧ Reads1 tr us gt ∧ ∀ H', Same H H' → Q (.bl (lawT us sn c tr gt)) H'
theorem ok_law_truth {f : Addr} {fd : FuncData} {k : Nat} (F : L2.Fun K "_law_truth" "_law_truth" s__law_truth f fd) (T : Nm mg) : FnOk P w K mg base CX0 (k + 1) f fd ["w", "gate", "found"] (spLawTruth K) := by
  refine F.ok sc__law_truth (fun vs H Q E h => ?_) (fun cdv A outer s H vs Q E hr h => ?_)
  · obtain ⟨ww, v, f, g, u, s, c, fl, us, sn, tr, gt, rfl, _⟩ := h
    rfl
  · obtain ⟨ww, v, f, g, u, s', c, fl, us, sn, tr, gt, rfl, W, h, hf, hk, q⟩ := h
    have hu := hu_of hr
    refine ⟨_, (pss_cons (ps_if (pt_cmpR op_eq (pe_ix (ix_sqK (K := K) rfl) (pv 1) pe_int (fun _ _ => rfl)) pe_str (nomark _))
 (pss_one (ps_ret (pe_cmpR op_eq (pe_dget hu (pe_dget hu (pv 0) pe_str (fun _ _ => rfl)) (pe_ix (ix_sqK (K := K) rfl) (pv 1) pe_int (fun _ _ => rfl)) (fun _ _ => rfl)) pe_str (nomark _))))
 pss_nil)
 (pss_cons (ps_if (pt_cmpR op_eq (pe_ix (ix_sqK (K := K) rfl) (pv 1) pe_int (fun _ _ => rfl)) pe_str (nomark _))
 (pss_cons (ps_setLc (i := 3) (own := [("name", 5)]) (g := gName 5) (by rfl) sc__law_truth.nd rfl rfl (sw_true rfl rfl rfl (by decide +kernel)) (pi_sq (pe_slice (sl_sqK (K := K) rfl) (pv 1) (po_some pe_int) po_none)) (blkOk_by (own := [("name", 5)]) (N := ["w", "gate", "found", "begins", "inputs", "name", "truth"]) (sc := defScope s__law_truth) (by decide +kernel)) (fun _ _ _ _ _ => pg_name (i := 5) sc__law_truth.nd rfl (.inl rfl)) (fun _ _ _ _ _ => pts_nil) (fun _ _ _ _ _ => (pe_dget2 hu (pe_dget hu (pv 0) pe_str (fun _ _ => rfl)) (pv 5) (pe_dget hu (pv 0) pe_str (fun _ _ => rfl)) ⟨rfl, rfl, rfl, rfl⟩)))
 (pss_one (ps_ret (pe_and (pe_dget hu (pv 2) (pe_ix (ix_sqK (K := K) rfl) (pv 1) pe_int (fun _ _ => rfl)) (fun _ _ => rfl)) (pe_and (pe_dget hu (pv 2) (pe_ix (ix_sqK (K := K) rfl) (pv 1) pe_int (fun _ _ => rfl)) (fun _ _ => rfl)) (pe_one (pe_cmpR op_lt (pe_ix ix_list (pv 3) pe_int (fun _ _ => rfl)) (pe_ix ix_list (pv 3) pe_int (fun _ _ => rfl)) (nomark _))))))))
 pss_nil)
 (pss_cons (ps_setLc (i := 4) (own := [("name", 5)]) (g := gName 5) (by rfl) sc__law_truth.nd rfl rfl (sw_true rfl rfl rfl (by decide +kernel)) (pi_sq (pe_ix (ix_sqK (K := K) rfl) (pv 1) (pe_un un_neg pe_int) (fun _ _ => rfl))) (blkOk_by (own := [("name", 5)]) (N := ["w", "gate", "found", "begins", "inputs", "name", "truth"]) (sc := defScope s__law_truth) (by decide +kernel)) (fun _ _ _ _ _ => pg_name (i := 5) sc__law_truth.nd rfl (.inl rfl)) (fun _ _ _ _ _ => pts_nil) (fun _ _ _ _ _ => (pe_dget hu (pv 2) (pv 5) (fun _ _ => rfl))))
 (pss_cons (ps_if (pt_cmpR op_eq (pe_ix (ix_sqK (K := K) rfl) (pv 1) pe_int (fun _ _ => rfl)) pe_str (nomark _))
 (pss_one (ps_ret (pe_cmpR (op_notInK (K := K) rfl) pe_bl (pv 4) (by with_unfolding_all rfl))))
 pss_nil)
 (pss_one (ps_ret (pe_cmpR op_ge (pe_callB (call_lenK (K := K) rfl) (by rfl) T.n_len (by decide +kernel) (pa_cons (pe_lc (own := [("truth", 6)]) (g := gName 6) (by rfl) sc__law_truth.nd (pi_list (pv 4)) (blkOk_by (own := [("truth", 6)]) (N := ["w", "gate", "found", "begins", "inputs", "name", "truth"]) (sc := defScope s__law_truth) (by decide +kernel)) (fun _ _ _ _ _ => pg_name (i := 6) sc__law_truth.nd rfl (.inl rfl)) (fun _ _ _ _ _ => pts_one (pt_val (pv 6))) (fun _ _ _ _ _ => pe_int)) pa_nil)) (pe_ifExp (pt_cmpR op_eq (pe_ix (ix_sqK (K := K) rfl) (pv 1) pe_int (fun _ _ => rfl)) pe_str (nomark _)) pe_int (pe_ix (ix_sqK (K := K) rfl) (pv 1) pe_int (fun _ _ => rfl))) (nomark _)))))))), ?_⟩
    obtain ⟨t, rest, rfl, ht, _⟩ := h.cut
    refine ⟨.ref t, rfl, t, _, 1, .str gt.word, rfl, rfl, .inr ht, at1, rfl, _, rfl, ?_⟩
    -- the inputs' truths
    have inp : ∀ (ins : List Str) (pu : Addr), SqT K H pu (sV ins) → (∀ x ∈ ins, KeyIn tr x) → ins.length ≤ 1000 → True := fun _ _ _ _ _ => trivial
    cases gt with
    | spare n ps =>
      obtain ⟨t', pu, e, ht', hpu⟩ := h
      cases e
      refine iteD rfl ?_
      obtain ⟨z, hz, hg⟩ := KeyIn.get hk W.hu
      refine ⟨.ref ww, rfl, ww, .ref u, rfl, W.gU, .ref t, rfl, t, _, 0, .str n, rfl, rfl, .inr ht', rfl, u, _, rfl, hg, rfl, ?_⟩
      show Q (V.bl (decide (V.str z = V.str emptyS))) H
      rw [decStr]
      have e : decide (z = emptyS) = lawT us sn c tr (.spare n ps) := by show _ = decide ((getA us n).getD emptyS = emptyS); rw [hz]; rfl
      rw [e]
      exact q _ (Same.refl _)
    | before n x y =>
      obtain ⟨t', e, ht'⟩ := h
      cases e
      refine iteN (litNe ne_before_spare) ?_
      refine ⟨.ref t, rfl, t, _, 1, .str "before", rfl, rfl, .inr ht', at1, rfl, _, rfl, iteD rfl ?_⟩
      have gs : ∀ (z : Str) (H5 : Hp), Same H H5 → DGet H5 s' (.str z) ((getA sn z).map V.int) := fun z H5 s5 => by
        have q := DGet.k (k := .inr z) (s5 _ _ W.hs)
        rw [valV_dS] at q
        exact q
      refine ⟨.ref t, rfl, 2, rfl, rSlQ.of (.inr ht') fun pc H2 s2 hpc => ?_⟩
      have e2 : cutV [V.str n, V.str "before", V.str x, V.str y] (some 2) none = sV [x, y] := cut_from (i := 2) (by simp)
      rw [e2] at hpc
      obtain ⟨b, hb⟩ := hpc.b
      refine ⟨pc, b, rfl, ⟨_, hb⟩, fun D nD => ?_⟩
      refine lc_it (walk_sq (xs := sV [x, y])) (LP H2 D fun j => (([x, y].take j).map fun z => V.int ((getA sn z).getD c))) (LP.zero nD rfl) (fun _ _ _ p => Same.sqb p.sm hb) (fun j z H3 H4 hj p yy => ?_) (fun H3 p => ?_)
      · obtain ⟨rfl, hx⟩ := yy
        have hj2 : j < [x, y].length := by simpa [sV] using hj
        have hx2 : (sV [x, y])[j]? = some (.str [x, y][j]) := by
          show ([x, y].map V.str)[j]? = _
          rw [List.getElem?_map, List.getElem?_eq_getElem hj2]
          rfl
        obtain rfl : z = .str [x, y][j] := Option.some.inj (hx.symm.trans hx2)
        have s4 := s2.trans p.sm
        have W4 := W.same s4
        refine ⟨rfl, .ref ww, rfl, ww, .ref s', rfl, W4.gS, s', rfl, .inl ⟨_, .inl W4.hs⟩, .str [x, y][j], rfl, .ref ww, rfl, ww, .int c, rfl, W4.gC, _, gs [x, y][j] _ s4, ?_⟩
        have ev : (((getA sn [x, y][j]).map V.int).getD (V.int c)) = V.int ((getA sn [x, y][j]).getD c) := by
          cases getA sn [x, y][j] <;> rfl
        rw [ev]
        refine p.put nD (Same.refl _) ?_ (by rw [sizeLine_eq]; simp; omega)
        show ([x, y].take (j + 1)).map _ = ([x, y].take j).map _ ++ [_]
        rw [List.take_add_one, List.getElem?_eq_getElem hj2, List.map_append]
        rfl
      · have hD : H3 D = some (.lst [.int ((getA sn x).getD c), .int ((getA sn y).getD c)]) := p.at_
        have s3 := s2.trans p.sm
        have hf3 := s3 _ _ hf
        have ht3 := Same.sqt s3 ht'
        refine ⟨.ref f, rfl, .ref t, rfl, t, _, 2, .str x, rfl, rfl, .inr ht3, rfl, f, _, rfl, hk.1.look hf3, lookT tr x, rfl, ?_⟩
        cases hx : lookT tr x with
        | false =>
          have e : lawT us sn c tr (.before n x y) = false := by show (lookT tr x && _) = false; rw [hx]; rfl
          have q := q H3 s3
          rw [e] at q
          exact iteF q
        | true =>
          refine iteT ?_
          refine ⟨.ref f, rfl, .ref t, rfl, t, _, 3, .str y, rfl, rfl, .inr ht3, rfl, f, _, rfl, hk.2.look hf3, lookT tr y, rfl, ?_⟩
          cases hy : lookT tr y with
          | false =>
            have e : lawT us sn c tr (.before n x y) = false := by show (lookT tr x && (lookT tr y && _)) = false; rw [hx, hy]; rfl
            have q := q H3 s3
            rw [e] at q
            exact iteF q
          | true =>
            refine iteT ?_
            have e : lawT us sn c tr (.before n x y) = decide ((getA sn x).getD c < (getA sn y).getD c) := by show (lookT tr x && (lookT tr y && _)) = _; rw [hx, hy]; rfl
            have q := q H3 s3
            rw [e] at q
            exact ⟨.ref D, rfl, D, _, 0, _, rfl, rfl, .of hD, at0, .ref D, rfl, D, _, 1, _, rfl, rfl, .of hD, at1, _, _, rfl, rfl, q⟩
    | all n ins =>
      obtain ⟨t', pu, e, ht', hpu⟩ := h
      cases e
      obtain ⟨hk1, hk2⟩ := hk
      refine iteN (litNe ne_all_spare) ?_
      refine ⟨.ref t, rfl, t, _, 1, .str "all", rfl, rfl, .inr ht', at1, rfl, _, rfl, iteN (litNe ne_all_before) ?_⟩
      refine ⟨.ref t, rfl, 1, rfl, t, _, -1, .ref pu, rfl, rfl, .inr ht', atI_last [V.str n, V.str "all"] _, pu, false, rfl, ⟨_, hpu⟩, fun D nD => ?_⟩
      refine lc_it (walk_sq (xs := sV ins)) (LP H D fun j => ((ins.take j).map (lookT tr)).map V.bl) (LP.zero nD rfl) (fun _ _ _ p => Same.sqb (b := false) p.sm hpu) (fun j x H2 H3 hj p y => ?_) (fun H2 p => ?_)
      · obtain ⟨rfl, hx⟩ := y
        have hj2 : j < ins.length := by simpa [sV] using hj
        have hx2 : (sV ins)[j]? = some (.str ins[j]) := by simp [sV, hj2]
        obtain rfl : x = .str ins[j] := Option.some.inj (hx.symm.trans hx2)
        have eT : ins.take (j + 1) = ins.take j ++ [ins[j]] := by rw [List.take_add_one, List.getElem?_eq_getElem hj2]; rfl
        refine ⟨rfl, .ref f, rfl, .str ins[j], rfl, f, _, rfl, (hk1 _ (List.getElem_mem hj2)).look (p.sm _ _ hf), ?_⟩
        exact p.put nD (Same.refl _) (by show ((ins.take (j + 1)).map (lookT tr)).map V.bl = _; rw [eT, List.map_append, List.map_append]; rfl) (by rw [sizeLine_eq]; simp; omega)
      · have hD : H2 D = some (.lst ((ins.map (lookT tr)).map V.bl)) := by rw [p.at_]; simp [sV, List.take_of_length_le]
        have ht2 := Same.sqt p.sm ht'
        refine ⟨.ref t, rfl, t, _, 1, .str "all", rfl, rfl, .inr ht2, at1, rfl, _, rfl, ?_⟩
        refine iteD rfl ⟨.ref D, rfl, D, _, rfl, .inl (.of hD), rfl, flat_bl _, ?_⟩
        have e : (!inV (.bl false) ((ins.map (lookT tr)).map V.bl)) = lawT us sn c tr (.all n ins) := by rw [not_false_in, all_map]; rfl
        show Q (V.bl (!inV (.bl false) ((ins.map (lookT tr)).map V.bl))) H2
        rw [e]
        exact q _ p.sm
    | any n ins =>
      obtain ⟨t', pu, e, ht', hpu⟩ := h
      cases e
      obtain ⟨hk1, hk2⟩ := hk
      refine iteN (litNe ne_any_spare) ?_
      refine ⟨.ref t, rfl, t, _, 1, .str "any", rfl, rfl, .inr ht', at1, rfl, _, rfl, iteN (litNe ne_any_before) ?_⟩
      refine ⟨.ref t, rfl, 1, rfl, t, _, -1, .ref pu, rfl, rfl, .inr ht', atI_last [V.str n, V.str "any"] _, pu, false, rfl, ⟨_, hpu⟩, fun D nD => ?_⟩
      refine lc_it (walk_sq (xs := sV ins)) (LP H D fun j => ((ins.take j).map (lookT tr)).map V.bl) (LP.zero nD rfl) (fun _ _ _ p => Same.sqb (b := false) p.sm hpu) (fun j x H2 H3 hj p y => ?_) (fun H2 p => ?_)
      · obtain ⟨rfl, hx⟩ := y
        have hj2 : j < ins.length := by simpa [sV] using hj
        have hx2 : (sV ins)[j]? = some (.str ins[j]) := by simp [sV, hj2]
        obtain rfl : x = .str ins[j] := Option.some.inj (hx.symm.trans hx2)
        have eT : ins.take (j + 1) = ins.take j ++ [ins[j]] := by rw [List.take_add_one, List.getElem?_eq_getElem hj2]; rfl
        refine ⟨rfl, .ref f, rfl, .str ins[j], rfl, f, _, rfl, (hk1 _ (List.getElem_mem hj2)).look (p.sm _ _ hf), ?_⟩
        exact p.put nD (Same.refl _) (by show ((ins.take (j + 1)).map (lookT tr)).map V.bl = _; rw [eT, List.map_append, List.map_append]; rfl) (by rw [sizeLine_eq]; simp; omega)
      · have hD : H2 D = some (.lst ((ins.map (lookT tr)).map V.bl)) := by rw [p.at_]; simp [sV, List.take_of_length_le]
        have ht2 := Same.sqt p.sm ht'
        refine ⟨.ref t, rfl, t, _, 1, .str "any", rfl, rfl, .inr ht2, at1, rfl, _, rfl, ?_⟩
        refine iteN (litNe ne_any_all) ?_
        refine ⟨.ref D, rfl, D, rfl, ⟨_, .of hD⟩, fun O nO => ?_⟩
        refine lc_it (walk_list (xs := (ins.map (lookT tr)).map V.bl)) (LP H2 O fun j => ones ((ins.take j).filter (lookT tr)).length) (LP.zero nO rfl) (fun _ _ _ p => p.sm.seq (.of hD)) (fun j x H3 H4 hj p3 y => ?_) (fun H3 p3 => ?_)
        · obtain ⟨rfl, hx⟩ := y
          have hj2 : j < ins.length := by simpa using hj
          have hx2 : ((ins.map (lookT tr)).map V.bl)[j]? = some (.bl (lookT tr ins[j])) := by simp [hj2]
          obtain rfl : x = .bl (lookT tr ins[j]) := Option.some.inj (hx.symm.trans hx2)
          have eT : ins.take (j + 1) = ins.take j ++ [ins[j]] := by rw [List.take_add_one, List.getElem?_eq_getElem hj2]; rfl
          have hle : ((ins.take j).filter (lookT tr)).length ≤ (ins.take j).length := List.length_filter_le ..
          rw [List.length_take] at hle
          refine ⟨rfl, .bl (lookT tr ins[j]), rfl, _, rfl, ite2 (fun e => ?_) (fun e => ?_)⟩
          · refine p3.put nO (Same.refl _) ?_ (by rw [sizeLine_eq]; simp only [ones, List.length_replicate]; omega)
            show ones _ = ones _ ++ [_]
            rw [eT, List.filter_append, filter_one, if_pos e, List.length_append]
            unfold ones
            rw [List.length_singleton, List.replicate_succ']
          · refine p3.skip (Same.refl _) ?_
            show ones _ = ones _
            rw [eT, List.filter_append, filter_one, if_neg e, List.append_nil]
        · have hO : H3 O = some (.lst (ones (ins.filter (lookT tr)).length)) := by rw [p3.at_]; simp [List.take_of_length_le]
          have s3 := p.sm.trans p3.sm
          have ht3 := Same.sqt p3.sm ht2
          have lO : (ones (ins.filter (lookT tr)).length).length = (ins.filter (lookT tr)).length := by simp [ones]
          refine ⟨O, _, rfl, .inl (.of hO), ?_⟩
          rw [lO]
          refine ⟨.ref t, rfl, t, _, 1, .str "any", rfl, rfl, .inr ht3, at1, rfl, _, rfl, ?_⟩
          refine iteD rfl ⟨_, 1, rfl, rfl, ?_⟩
          have e : decide ((1 : Int) ≤ ((ins.filter (lookT tr)).length : Int)) = lawT us sn c tr (.any n ins) := by rw [any_len]; rfl
          show Q (V.bl (decide ((1 : Int) ≤ ((ins.filter (lookT tr)).length : Int)))) H3
          rw [e]
          exact q _ s3
    | least n m ins =>
      obtain ⟨t', pu, e, ht', hpu⟩ := h
      cases e
      obtain ⟨hk1, hk2⟩ := hk
      refine iteN (litNe ne_least_spare) ?_
      refine ⟨.ref t, rfl, t, _, 1, .str "least", rfl, rfl, .inr ht', at1, rfl, _, rfl, iteN (litNe ne_least_before) ?_⟩
      refine ⟨.ref t, rfl, 1, rfl, t, _, -1, .ref pu, rfl, rfl, .inr ht', atI_last [V.str n, V.str "least", V.int m] _, pu, false, rfl, ⟨_, hpu⟩, fun D nD => ?_⟩
      refine lc_it (walk_sq (xs := sV ins)) (LP H D fun j => ((ins.take j).map (lookT tr)).map V.bl) (LP.zero nD rfl) (fun _ _ _ p => Same.sqb (b := false) p.sm hpu) (fun j x H2 H3 hj p y => ?_) (fun H2 p => ?_)
      · obtain ⟨rfl, hx⟩ := y
        have hj2 : j < ins.length := by simpa [sV] using hj
        have hx2 : (sV ins)[j]? = some (.str ins[j]) := by simp [sV, hj2]
        obtain rfl : x = .str ins[j] := Option.some.inj (hx.symm.trans hx2)
        have eT : ins.take (j + 1) = ins.take j ++ [ins[j]] := by rw [List.take_add_one, List.getElem?_eq_getElem hj2]; rfl
        refine ⟨rfl, .ref f, rfl, .str ins[j], rfl, f, _, rfl, (hk1 _ (List.getElem_mem hj2)).look (p.sm _ _ hf), ?_⟩
        exact p.put nD (Same.refl _) (by show ((ins.take (j + 1)).map (lookT tr)).map V.bl = _; rw [eT, List.map_append, List.map_append]; rfl) (by rw [sizeLine_eq]; simp; omega)
      · have hD : H2 D = some (.lst ((ins.map (lookT tr)).map V.bl)) := by rw [p.at_]; simp [sV, List.take_of_length_le]
        have ht2 := Same.sqt p.sm ht'
        refine ⟨.ref t, rfl, t, _, 1, .str "least", rfl, rfl, .inr ht2, at1, rfl, _, rfl, ?_⟩
        refine iteN (litNe ne_least_all) ?_
        refine ⟨.ref D, rfl, D, rfl, ⟨_, .of hD⟩, fun O nO => ?_⟩
        refine lc_it (walk_list (xs := (ins.map (lookT tr)).map V.bl)) (LP H2 O fun j => ones ((ins.take j).filter (lookT tr)).length) (LP.zero nO rfl) (fun _ _ _ p => p.sm.seq (.of hD)) (fun j x H3 H4 hj p3 y => ?_) (fun H3 p3 => ?_)
        · obtain ⟨rfl, hx⟩ := y
          have hj2 : j < ins.length := by simpa using hj
          have hx2 : ((ins.map (lookT tr)).map V.bl)[j]? = some (.bl (lookT tr ins[j])) := by simp [hj2]
          obtain rfl : x = .bl (lookT tr ins[j]) := Option.some.inj (hx.symm.trans hx2)
          have eT : ins.take (j + 1) = ins.take j ++ [ins[j]] := by rw [List.take_add_one, List.getElem?_eq_getElem hj2]; rfl
          have hle : ((ins.take j).filter (lookT tr)).length ≤ (ins.take j).length := List.length_filter_le ..
          rw [List.length_take] at hle
          refine ⟨rfl, .bl (lookT tr ins[j]), rfl, _, rfl, ite2 (fun e => ?_) (fun e => ?_)⟩
          · refine p3.put nO (Same.refl _) ?_ (by rw [sizeLine_eq]; simp only [ones, List.length_replicate]; omega)
            show ones _ = ones _ ++ [_]
            rw [eT, List.filter_append, filter_one, if_pos e, List.length_append]
            unfold ones
            rw [List.length_singleton, List.replicate_succ']
          · refine p3.skip (Same.refl _) ?_
            show ones _ = ones _
            rw [eT, List.filter_append, filter_one, if_neg e, List.append_nil]
        · have hO : H3 O = some (.lst (ones (ins.filter (lookT tr)).length)) := by rw [p3.at_]; simp [List.take_of_length_le]
          have s3 := p.sm.trans p3.sm
          have ht3 := Same.sqt p3.sm ht2
          have lO : (ones (ins.filter (lookT tr)).length).length = (ins.filter (lookT tr)).length := by simp [ones]
          refine ⟨O, _, rfl, .inl (.of hO), ?_⟩
          rw [lO]
          refine ⟨.ref t, rfl, t, _, 1, .str "least", rfl, rfl, .inr ht3, at1, rfl, _, rfl, ?_⟩
          refine iteN (litNe ne_least_any) ⟨.ref t, rfl, t, _, 2, .int m, rfl, rfl, .inr ht3, at2, _, m, rfl, rfl, ?_⟩
          exact q _ s3
end
end Kf

set_option Elab.async false
set_option linter.all false
set_option maxRecDepth 100000
set_option maxHeartbeats 2000000
namespace Kf
open PySem PySem.Spec PyProof.Rows L2 LamX NdefX
def lawBf (us : Uses) (sn : List (Str × Int)) (c : Int) : G → Tr → Bool := fun g tr => lawT us sn c tr g
def lawTr (fl : List Str) (us : Uses) (sn : List (Str × Int)) (c : Int) (ps : List (Str × Str)) (gs : List G) : Tr := tellM (lawBf us sn c) fl us ps gs
theorem truth1_law {us : Uses} {sn : List (Str × Int)} {c : Int} {tr : Tr} {g : G} : truth1 (lawBf us sn c) us tr g = lawT us sn c tr g := by cases g <;> rfl
theorem paired_imp {α β : Type} {F F' : α → β → Prop} (h : ∀ a b, F a b → F' a b) : ∀ {xs : List α} {ys : List β}, Paired F xs ys → Paired F' xs ys
  | _, _, .nil => .nil
  | _, _, .cons a b => .cons (h _ _ a) (paired_imp h b)
theorem paired_snoc {α β : Type} {F : α → β → Prop} {x : α} {y : β} (h : F x y) : ∀ {xs : List α} {ys : List β}, Paired F xs ys → Paired F (xs ++ [x]) (ys ++ [y])
  | _, _, .nil => .cons h .nil
  | _, _, .cons a b => .cons a (paired_snoc h b)
theorem mergeK_dS {α β : Type} (f : α → V) (k : β → Str) (v : β → α) : ∀ (ps : List β) (l : List (Str × α)), mergeK (dS f l) (ps.map fun p => ((.inr (k p) : Key), f (v p))) = dS f (ps.foldl (fun acc p => setA acc (k p) (v p)) l)
  | [], l => rfl
  | p :: r, l => by
    show mergeK (putK (dS f l) (.inr (k p)) (f (v p))) (r.map _) = _
    rw [putK_dS, mergeK_dS f k v r]
    rfl
section
variable {P : Program} {w : World} {K : PySem.W.Frag} {mg : Str → Option Value} {base : Heap}
def spLawTruths (K : PySem.W.Frag) : Sp := fun vs H Q _ => ∃ m ww kvs pa xs ps ga ys gs g u s c fl us sn, vs = [.ref m, .ref ww] ∧ H m = some (.dK kvs) ∧ valV kvs (.inr "parts") = some (.ref pa) ∧ valV kvs (.inr "gates") = some (.ref ga) ∧ Sq K H pa xs ∧ Each (PartAt K H) xs ps ∧ Sq K H ga ys ∧ Each (GateAt K H) ys gs ∧ WAt H ww g u s c fl us sn ∧ TellOk ps us gs ∧
  ∀ H' p, Same H H' → H p = none → H' p = some (.dK (dS V.bl (lawTr fl us sn c ps gs))) → Q (.ref p) H'
theorem ok_law_truths {f : Addr} {fd : FuncData} (F : L2.Fun K "_law_truths" "_law_truths" s__law_truths f fd) (T : Nm mg) (C__law_truth : Cal P w K mg base 1 "_law_truth" ["w", "gate", "found"] (spLawTruth K)) : FnOk P w K mg base CX0 2 f fd ["m", "w"] (spLawTruths K) := by
  refine F.ok sc__law_truths (fun vs H Q E h => ?_) (fun cdv A outer s H vs Q E hr h => ?_)
  · obtain ⟨m, ww, kvs, pa, xs, ps, ga, ys, gs, g, u, s, c, fl, us, sn, rfl, _⟩ := h
    rfl
  · obtain ⟨m, ww, kvs, pa, xs, ps, ga, ys, gs, g, u, s', c, fl, us, sn, rfl, hm, hpa, hga, ha, hea, hb, heb, W, ok, q⟩ := h
    have hu := hu_of hr
    refine ⟨_, (pss_cons (ps_set (i := 2) sc__law_truths.nd rfl (.inl rfl) (pe_callTy (call_dictP rfl) (by rfl) T.n_dict (by decide +kernel) (pa_cons (pe_lc (own := [("name", 4), ("kind", 5)]) (by rfl) sc__law_truths.nd (pi_sq (pe_dget hu (pv 0) pe_str (fun _ _ => rfl))) (blkOk_by (own := [("name", 4), ("kind", 5)]) (N := ["m", "w", "found", "gate", "name", "kind"]) (sc := defScope s__law_truths) (by decide +kernel)) (fun _ _ _ _ _ => (pg_tupK (K := K) (n := 2) rfl rfl (pgs_cons (pg_name (i := 4) sc__law_truths.nd rfl (.inl rfl)) (pgs_cons (pg_name (i := 5) sc__law_truths.nd rfl (.inl rfl)) pgs_nil)))) (fun _ _ _ _ _ => pts_nil) (fun _ _ _ _ _ => (pe_tup (pa_cons (pv 4) (pa_cons (pe_cmpR (op_inK (K := K) rfl) (pv 4) (pe_dget hu (pv 1) pe_str (fun _ _ => rfl)) (by with_unfolding_all rfl)) pa_nil))))) pa_nil)))
 (pss_cons (ps_for PassesOwn.never rfl (pi_sq (pe_dget hu (pv 0) pe_str (fun _ _ => rfl))) (pg_name (i := 3) sc__law_truths.nd rfl (.inl rfl))
 (pss_one (ps_dput hu (pv 2) (pe_ix (ix_sqK (K := K) rfl) (pv 3) pe_int (fun _ _ => rfl)) (pe_cal C__law_truth (by decide) hr (by rfl) (pa_cons (pv 1) (pa_cons (pv 3) (pa_cons (pv 2) pa_nil)))) rfl)))
 (pss_one (ps_ret (pv 2))))), ?_⟩
    have gp : ∀ H5, Same H H5 → DGet H5 m (.str "parts") (some (.ref pa)) := fun H5 s5 => by
      have q := DGet.k (k := .inr "parts") (s5 _ _ hm)
      rw [hpa] at q
      exact q
    have gg : ∀ H5, Same H H5 → DGet H5 m (.str "gates") (some (.ref ga)) := fun H5 s5 => by
      have q := DGet.k (k := .inr "gates") (s5 _ _ hm)
      rw [hga] at q
      exact q
    obtain ⟨da, hda⟩ := ha.b
    obtain ⟨db, hdb⟩ := hb.b
    have ela := hea.1
    have elb := heb.1
    have hpl := ok.pl
    have hgl := ok.gl
    have p1 : ∀ b x, (part1 fl b x).length ≤ b.length + 1 := fun b x => setA_le ..
    have t1 : ∀ b x, (tell1 (lawBf us sn c) us b x).length ≤ b.length + 1 := fun b x => setA_le ..
    refine ⟨.ref m, rfl, m, _, rfl, gp H (Same.refl _), pa, da, rfl, ⟨_, hda⟩, fun D nD => ?_⟩
    refine lc_it (walk_sq (xs := xs)) (fun i H2 => Same H H2 ∧ ∃ as : List Addr, H2 D = some (.lst (as.map V.ref)) ∧ as.length = i ∧ Paired (fun p (kv : Key × V) => SqT K H2 p [kV kv.1, kv.2]) as ((ps.take i).map fun p => ((.inr p.1 : Key), V.bl (decide (p.1 ∈ fl)))))
      ⟨Same.new nD, [], upd_same, rfl, .nil⟩ (fun _ _ _ p => Same.sqb p.1 hda) (fun i x H2 H3 hi p y => ?_) (fun H2 p => ?_)
    · obtain ⟨rfl, hx⟩ := y
      obtain ⟨sm, as, hD, hlen, hp⟩ := p
      obtain ⟨pt, hpt, t, rfl, r⟩ := hea.2 i x hx
      have r := Same.sqt sm r
      have W3 := W.same sm
      refine ⟨t, _, rfl, r, rfl, .str pt.1, _, rfl, .str pt.2, [], rfl, rfl, rfl, .str pt.1, rfl, .str pt.1, rfl, .ref ww, rfl, ww, .ref g, rfl, W3.gG, g, _, rfl, .inl (.of W3.hg), rfl, flat_sV _, by show 2 ≤ sizeLine; decide, fun q' nq => ?_⟩
      have ev : V.bl (if false = true then !inV (.str pt.1) (sV fl) else inV (.str pt.1) (sV fl)) = V.bl (decide (pt.1 ∈ fl)) := by
        show V.bl (inV (.str pt.1) (sV fl)) = _
        rw [inV_sV]
      rw [ev]
      have s4 : Same H3 (upd H3 q' (.tup [.str pt.1, .bl (decide (pt.1 ∈ fl))])) := Same.new nq
      refine ⟨_, s4 _ _ hD, by rw [sizeLine_eq, List.length_map]; omega, Same.at (sm.trans s4) nD, as ++ [q'], by rw [upd_same, List.map_append]; rfl, by simp [hlen], ?_⟩
      have nDq : D ≠ q' := ne_of_none hD nq
      have kD : ∀ a l, SqT K H3 a l → SqT K (upd (upd H3 q' (.tup [.str pt.1, .bl (decide (pt.1 ∈ fl))])) D (.lst (as.map V.ref ++ [.ref q']))) a l := fun a l h => by
        have h2 := Same.sqt s4 h
        rcases h2 with (h2 | ⟨o, h2⟩) | h2
        · exact .inl (.inl (by rw [upd_ne (ne_of h2 (s4 _ _ hD) (by intro z; cases z))]; exact h2))
        · exact .inl (.inr ⟨o, by rw [upd_ne (ne_of h2 (s4 _ _ hD) (by intro z; cases z))]; exact h2⟩)
        · exact .inr h2
      rw [List.take_add_one, hpt, List.map_append]
      refine paired_snoc ?_ (paired_imp (fun a b h => kD _ _ h) hp)
      exact .of (by rw [upd_ne nDq.symm, upd_same]; rfl)
    · obtain ⟨sm, as, hD, hlen, hp⟩ := p
      rw [ela, List.take_length] at hp
      refine ⟨D, as, _, rfl, .of hD, hp, fun F0 nF => ?_⟩
      have em : mergeK [] (ps.map fun p => ((.inr p.1 : Key), V.bl (decide (p.1 ∈ fl)))) = dS V.bl (partsTr fl ps) := mergeK_dS V.bl (fun p : Str × Str => p.1) (fun p => decide (p.1 ∈ fl)) ps []
      rw [em]
      have s3 : Same H (upd H2 F0 (.dK (dS V.bl (partsTr fl ps)))) := sm.trans (Same.new nF)
      have nF0 : H F0 = none := sm.free nF
      refine ⟨.ref m, rfl, m, _, rfl, gg _ s3, ga, db, rfl, ⟨_, Same.sqb s3 hdb⟩, for_it (walk_sq (xs := ys)) (fun i σ H3 => ∃ y3 y4 y5, σ = [some (.ref m), some (.ref ww), some (.ref F0), y3, y4, y5] ∧ Same H H3 ∧ H3 F0 = some (.dK (dS V.bl ((gs.take i).foldl (tell1 (lawBf us sn c) us) (partsTr fl ps))))) ⟨_, _, _, rfl, s3, upd_same⟩ (fun i σ H3 hi p => ?_) (fun i x σ H3 H4 hi p y => ?_) (fun σ H3 p => ?_)⟩
      · obtain ⟨_, _, _, _, sm, _⟩ := p
        exact Same.sqb sm hdb
      · obtain ⟨y3, y4, y5, rfl, sm, hn⟩ := p
        obtain ⟨rfl, hx⟩ := y
        obtain ⟨gt, hg, r⟩ := heb.2 i x hx
        have r := GateAt.kt (Same.kt sm) r
        obtain ⟨t, rest, rfl, ht, _⟩ := r.cut
        have hrd : Reads1 ((gs.take i).foldl (tell1 (lawBf us sn c) us) (partsTr fl ps)) us gt := (ok.each i gt hg).at fun x hx => keyIn_tell (by
          rcases List.mem_append.mp hx with h | h
          · exact .inl (keyIn_parts h)
          · exact .inr h)
        have suc := fold_succ (tell1 (lawBf us sn c) us) (partsTr fl ps) hg
        have hlen : (dS V.bl ((gs.take i).foldl (tell1 (lawBf us sn c) us) (partsTr fl ps))).length ≤ 1000 := by
          rw [dS_len]
          have h1 := fold_le t1 (gs.take i) (partsTr fl ps)
          have h2 := fold_le p1 ps []
          have h3 : (partsTr fl ps).length ≤ ps.length := by simpa [partsTr] using h2
          have h4 : (gs.take i).length ≤ gs.length := by rw [List.length_take]; omega
          omega
        refine ⟨.ref ww, rfl, .ref t, rfl, .ref F0, rfl, ww, .ref t, F0, g, u, s', c, fl, us, sn, _, gt, rfl, W.same sm, r, hn, hrd, fun H5 s5 => ?_⟩
        refine ⟨.ref F0, rfl, .ref t, rfl, t, _, 0, .str gt.name, rfl, rfl, .inr (Same.sqt s5 ht), at0, F0, _, rfl, DPut.k (k := .inr gt.name) (s5 _ _ hn) (small1000 hlen), ?_⟩
        refine ⟨_, _, _, rfl, Same.at (sm.trans s5) nF0, ?_⟩
        rw [upd_same, putK_dS V.bl, suc, ← truth1_law]
        rfl
      · obtain ⟨_, _, _, rfl, sm, hn⟩ := p
        rw [elb, List.take_length] at hn
        exact ⟨.ref F0, rfl, q _ F0 sm nF0 hn⟩
end
end Kf

set_option Elab.async false
set_option linter.all false
set_option maxRecDepth 100000
set_option maxHeartbeats 2000000
namespace Kf
open PySem PySem.Spec PyProof.Rows L2 LamX NdefX
def trueNames (tr : Tr) : List Str := (tr.map (·.1)).filter (lookT tr)
def sinceU (tr : Tr) (sn : List (Str × Int)) (c : Int) : List (Str × Int) := (trueNames tr).foldl (fun acc n => setA acc n ((getA sn n).getD c)) []
theorem keyIn_set_iff {α : Type} {l : List (Str × α)} {n m : Str} {x : α} : KeyIn (setA l n x) m ↔ KeyIn l m ∨ n = m := by
  unfold KeyIn
  rw [setA_any, Bool.or_eq_true, decide_eq_true_eq]
theorem keyIn_foldU {α β : Type} {k : β → Str} {v : β → α} {m : Str} : ∀ (ls : List β) (l : List (Str × α)), KeyIn (ls.foldl (fun acc n => setA acc (k n) (v n)) l) m ↔ KeyIn l m ∨ m ∈ ls.map k
  | [], l => by simp
  | x :: r, l => by
    rw [List.foldl_cons, keyIn_foldU r, keyIn_set_iff, List.map_cons, List.mem_cons]
    constructor
    · rintro ((h | h) | h)
      · exact .inl h
      · exact .inr (.inl h.symm)
      · exact .inr (.inr h)
    · rintro (h | h | h)
      · exact .inl (.inl h)
      · exact .inl (.inr h.symm)
      · exact .inr h
theorem look_key {tr : Tr} {n : Str} (h : lookT tr n = true) : n ∈ tr.map (·.1) := by
  unfold lookT at h
  cases e : getA tr n with
  | none => rw [e] at h; cases h
  | some b =>
    have := getA_any e
    obtain ⟨p, hp, h2⟩ := List.any_eq_true.mp this
    exact List.mem_map.mpr ⟨p, hp, of_decide_eq_true h2⟩
theorem since_iff {tr : Tr} {sn : List (Str × Int)} {c : Int} {n : Str} : KeyIn (sinceU tr sn c) n ↔ lookT tr n = true := by
  unfold sinceU
  rw [keyIn_foldU (k := fun n : Str => n)]
  constructor
  · rintro (h | h)
    · cases h
    · obtain ⟨x, hx, rfl⟩ := List.mem_map.mp h
      exact (List.mem_filter.mp hx).2
  · intro h
    exact .inr (List.mem_map.mpr ⟨n, List.mem_filter.mpr ⟨look_key h, h⟩, rfl⟩)
theorem tellM_le {bf : G → Tr → Bool} {fl : List Str} {us : Uses} {ps : List (Str × Str)} {gs : List G} : (tellM bf fl us ps gs).length ≤ ps.length + gs.length := by
  have h1 := fold_le (f := tell1 bf us) (fun b x => setA_le ..) gs (partsTr fl ps)
  have h2 := fold_le (f := part1 fl) (fun b x => setA_le ..) ps []
  have h3 : (partsTr fl ps).length ≤ ps.length := by simpa [partsTr] using h2
  have h4 : (tellM bf fl us ps gs).length ≤ (partsTr fl ps).length + gs.length := h1
  omega
section
variable {P : Program} {w : World} {K : PySem.W.Frag} {mg : Str → Option Value} {base : Heap}
def spClosed (K : PySem.W.Frag) : Sp := fun vs H Q _ => ∃ m ww kvs pa xs ps ga ys gs g u s c fl us sn, vs = [.ref m, .ref ww] ∧ H m = some (.dK kvs) ∧ valV kvs (.inr "parts") = some (.ref pa) ∧ valV kvs (.inr "gates") = some (.ref ga) ∧ Sq K H pa xs ∧ Each (PartAt K H) xs ps ∧ Sq K H ga ys ∧ Each (GateAt K H) ys gs ∧ WAt H ww g u s c fl us sn ∧ TellOk ps us gs ∧
  ∀ H' s2, Ku ww H H' → H s2 = none → WAt H' ww g u s2 c fl us (sinceU (lawTr fl us sn c ps gs) sn c) → Q .non H'
theorem ok_law_closed {f : Addr} {fd : FuncData} (F : L2.Fun K "_law_closed" "_law_closed" s__law_closed f fd) (T : Nm mg) (C__law_truths : Cal P w K mg base 2 "_law_truths" ["m", "w"] (spLawTruths K)) : FnOk P w K mg base CX0 3 f fd ["m", "w"] (spClosed K) := by
  refine F.ok sc__law_closed (fun vs H Q E h => ?_) (fun cdv A outer s H vs Q E hr h => ?_)
  · obtain ⟨m, ww, kvs, pa, xs, ps, ga, ys, gs, g, u, s, c, fl, us, sn, rfl, _⟩ := h
    rfl
  · obtain ⟨m, ww, kvs, pa, xs, ps, ga, ys, gs, g, u, s', c, fl, us, sn, rfl, hm, hpa, hga, ha, hea, hb, heb, W, ok, q⟩ := h
    have hu := hu_of hr
    refine ⟨_, (pss_cons (ps_set (i := 2) sc__law_closed.nd rfl (.inr rfl) (pe_cal C__law_truths (by decide) hr (by rfl) (pa_cons (pv 0) (pa_cons (pv 1) pa_nil))))
 (pss_one (ps_dput hu (pv 1) pe_str (pe_callTy (call_dictP rfl) (by rfl) T.n_dict (by decide +kernel) (pa_cons (pe_lock (pe_lc (own := [("name", 3)]) (g := gName 3) (by rfl) sc__law_closed.nd (pi_keys (pv 2)) (blkOk_by (own := [("name", 3)]) (N := ["m", "w", "found", "name"]) (sc := defScope s__law_closed) (by decide +kernel)) (fun _ _ _ _ _ => pg_name (i := 3) sc__law_closed.nd rfl (.inl rfl)) (fun _ _ _ _ _ => pts_one (pt_val (pe_dget hu (pv 2) (pv 3) (fun _ _ => rfl)))) (fun _ _ _ _ _ => (pe_tup (pa_cons (pv 3) (pa_cons (pe_dget2 hu (pe_dget hu (pv 1) pe_str (fun _ _ => rfl)) (pv 3) (pe_dget hu (pv 1) pe_str (fun _ _ => rfl)) ⟨rfl, rfl, rfl, rfl⟩) pa_nil)))))) pa_nil)) rfl))), ?_⟩
    refine ⟨.ref m, rfl, .ref ww, rfl, m, ww, kvs, pa, xs, ps, ga, ys, gs, g, u, s', c, fl, us, sn, rfl, hm, hpa, hga, ha, hea, hb, heb, W, ok, fun H2 F0 s2 nF hF => ?_⟩
    obtain ⟨tr, etr⟩ : ∃ tr, tr = lawTr fl us sn c ps gs := ⟨_, rfl⟩
    rw [← etr] at hF
    have ltr : tr.length ≤ 1000 := by
      have h1 := ok.pl
      have h2 := ok.gl
      have h3 : tr.length ≤ ps.length + gs.length := by rw [etr]; exact tellM_le
      omega
    refine ⟨F0, _, hF, True.intro, fun od => ?_⟩
    have s3 : Same H (upd H2 F0 (.frz od (.dK (dS V.bl tr)))) := Same.at s2 nF
    refine ⟨.ref F0, rfl, F0, od, rfl, .inl ⟨dS V.bl tr, upd_same, fun D nD => ?_⟩⟩
    have hlen : (dS V.bl tr).length = tr.length := dS_len ..
    refine lc_it (walk_keys (kvs := dS V.bl tr)) (fun i H4 => Same (upd H2 F0 (.frz od (.dK (dS V.bl tr)))) H4 ∧ ∃ as : List Addr, H4 D = some (.lst (as.map V.ref)) ∧ as.length ≤ i ∧ Paired (fun p (kv : Key × V) => SqT K H4 p [kV kv.1, kv.2]) as ((((tr.map (·.1)).take i).filter (lookT tr)).map fun n => ((.inr n : Key), V.int ((getA sn n).getD c))))
      ⟨Same.new nD, [], upd_same, Nat.le_refl _, .nil⟩ (fun i H4 _ p => p.1 _ _ upd_same) (fun i x H4 H5 hi p y => ?_) (fun H4 p => ?_)
    · obtain ⟨rfl, ky, vv, hkv, rfl⟩ := y
      obtain ⟨sm, as, hD, hle, hp⟩ := p
      have hi2 : i < tr.length := by omega
      obtain ⟨⟨n, b⟩, htr⟩ : ∃ p, tr[i]? = some p := ⟨tr[i], List.getElem?_eq_getElem hi2⟩
      have ek : ky = .inr n := by
        have e : (dS V.bl tr)[i]? = some ((.inr n : Key), V.bl b) := by simp [dS, htr]
        rw [e] at hkv
        cases hkv
        rfl
      subst ek
      have s5 := s3.trans sm
      have W5 := W.same s5
      have hF5 := sm _ _ (upd_same (H := H2) (a := F0) (o := .frz od (.dK (dS V.bl tr))))
      have kin : KeyIn tr n := List.any_eq_true.mpr ⟨(n, b), List.mem_of_getElem? htr, decide_eq_true rfl⟩
      have gF : DGet H5 F0 (.str n) (some (.bl (lookT tr n))) := by
        refine .inl ⟨_, .inr n, .inr ⟨od, hF5⟩, rfl, ?_⟩
        obtain ⟨z, hz⟩ := getA_of_any kin
        rw [valV_dS, hz]
        have e : lookT tr n = z := by unfold lookT; rw [hz]; rfl
        rw [e]
        rfl
      have eT : (tr.map (·.1)).take (i + 1) = (tr.map (·.1)).take i ++ [n] := by
        have e : (tr.map (·.1))[i]? = some n := by simp [htr]
        rw [List.take_add_one, e]
        rfl
      refine ⟨rfl, .ref F0, rfl, .str n, rfl, F0, _, rfl, gF, lookT tr n, rfl, ite2 (fun e => ?_) (fun e => ?_)⟩
      · have gS : DGet H5 s' (.str n) ((getA sn n).map V.int) := by
          have q := DGet.k (k := .inr n) W5.hs
          rw [valV_dS] at q
          exact q
        refine ⟨.str n, rfl, .ref ww, rfl, ww, .ref s', rfl, W5.gS, s', rfl, .inl ⟨_, .inl W5.hs⟩, .str n, rfl, .ref ww, rfl, ww, .int c, rfl, W5.gC, _, gS, by show 2 ≤ sizeLine; decide, fun q' nq => ?_⟩
        have ev : (((getA sn n).map V.int).getD (V.int c)) = V.int ((getA sn n).getD c) := by cases getA sn n <;> rfl
        rw [ev]
        have s6 : Same H5 (upd H5 q' (.tup [.str n, .int ((getA sn n).getD c)])) := Same.new nq
        have nDq : D ≠ q' := ne_of_none hD nq
        refine ⟨_, s6 _ _ hD, by rw [sizeLine_eq, List.length_map]; omega, Same.at (sm.trans s6) nD, as ++ [q'], by rw [upd_same, List.map_append]; rfl, by simp; omega, ?_⟩
        have kD : ∀ a l, SqT K H5 a l → SqT K (upd (upd H5 q' (.tup [.str n, .int ((getA sn n).getD c)])) D (.lst (as.map V.ref ++ [.ref q']))) a l := fun a l h => by
          have h2 := Same.sqt s6 h
          rcases h2 with (h2 | ⟨o, h2⟩) | h2
          · exact .inl (.inl (by rw [upd_ne (ne_of h2 (s6 _ _ hD) (by intro z; cases z))]; exact h2))
          · exact .inl (.inr ⟨o, by rw [upd_ne (ne_of h2 (s6 _ _ hD) (by intro z; cases z))]; exact h2⟩)
          · exact .inr h2
        rw [eT, List.filter_append, filter_one, if_pos e, List.map_append]
        refine paired_snoc ?_ (paired_imp (fun a b h => kD _ _ h) hp)
        exact .of (by rw [upd_ne nDq.symm, upd_same]; rfl)
      · refine ⟨sm, as, hD, by omega, ?_⟩
        rw [eT, List.filter_append, filter_one, if_neg e, List.append_nil]
        exact hp
    · obtain ⟨sm, as, hD, hle, hp⟩ := p
      have hF4 := sm _ _ (upd_same (H := H2) (a := F0) (o := .frz od (.dK (dS V.bl tr))))
      refine ⟨hF4, ?_⟩
      rw [hlen, List.take_of_length_le (by simp)] at hp
      have s5 : Same H (upd H4 F0 (.dK (dS V.bl tr))) := Same.at (s3.trans sm) nF
      have nFD : D ≠ F0 := ne_of hD hF4 (by intro z; cases z)
      have hD5 : (upd H4 F0 (.dK (dS V.bl tr))) D = some (.lst (as.map V.ref)) := by rw [upd_ne nFD]; exact hD
      have kF : ∀ a l, SqT K H4 a l → SqT K (upd H4 F0 (.dK (dS V.bl tr))) a l := fun a l h => by
        rcases h with (h | ⟨o, h⟩) | h
        · exact .inl (.inl (by rw [upd_ne (ne_of h hF4 (by intro z; cases z))]; exact h))
        · exact .inl (.inr ⟨o, by rw [upd_ne (ne_of h hF4 (by intro z; cases z))]; exact h⟩)
        · exact .inr h
      refine ⟨D, as, _, rfl, .of hD5, paired_imp (fun a b h => kF _ _ h) hp, fun S nS => ?_⟩
      have em : mergeK [] ((((tr.map (·.1)).filter (lookT tr))).map fun n => ((.inr n : Key), V.int ((getA sn n).getD c))) = dS V.int (sinceU tr sn c) := mergeK_dS V.int (fun n : Str => n) (fun n => (getA sn n).getD c) (trueNames tr) []
      rw [em]
      have s6 : Same H (upd (upd H4 F0 (.dK (dS V.bl tr))) S (.dK (dS V.int (sinceU tr sn c)))) := s5.trans (Same.new nS)
      have nS0 : H S = none := s5.free nS
      have W6 := W.same s6
      refine ⟨.ref ww, rfl, ww, _, rfl, DPut.k (k := .inr "since") W6.hw (small1000 (by show 4 ≤ 1000; decide)), ?_⟩
      rw [wk_put]
      have wS : ww ≠ S := ne_of_none W.hw nS0
      subst etr
      refine q _ S ((Same.ku s6).trans Ku.at) nS0 ⟨upd_same, ?_, ?_, ?_, W.wu, ?_⟩
      · rw [upd_ne (ne_of W6.hg W6.hw (by intro z; cases z))]; exact W6.hg
      · rw [upd_ne W.wu.symm]; exact W6.hu
      · rw [upd_ne wS.symm, upd_same]
      · exact (ne_of_none W.hu nS0).symm
end
end Kf

set_option Elab.async false
set_option linter.all false
set_option maxRecDepth 100000
set_option maxHeartbeats 2000000
namespace Kf
open PySem PySem.Spec PyProof.Rows L2 LamX NdefX
def seat0 (gs : List G) : Uses := seatU [] [] gs
def since0 (ps : List (Str × Str)) (gs : List G) : List (Str × Int) := sinceU (lawTr [] (seat0 gs) [] 0 ps gs) [] 0
section
variable {P : Program} {w : World} {K : PySem.W.Frag} {mg : Str → Option Value} {base : Heap}
def spFresh (K : PySem.W.Frag) : Sp := fun vs H Q _ => ∃ m kvs pa xs ps ga ys gs, vs = [.ref m] ∧ H m = some (.dK kvs) ∧ valV kvs (.inr "parts") = some (.ref pa) ∧ valV kvs (.inr "gates") = some (.ref ga) ∧ Sq K H pa xs ∧ Each (PartAt K H) xs ps ∧ Sq K H ga ys ∧ Each (GateAt K H) ys gs ∧ TellOk ps (seat0 gs) gs ∧ (∀ n ps, G.spare n ps ∈ gs → ps.length ≤ 500) ∧
  ∀ H' ww g u s, Same H H' → H ww = none → H g = none → H u = none → H s = none → WAt H' ww g u s 0 [] (seat0 gs) (since0 ps gs) → Q (.ref ww) H'
theorem ok_law_fresh {f : Addr} {fd : FuncData} (F : L2.Fun K "_law_fresh" "_law_fresh" s__law_fresh f fd) (T : Nm mg) (C__law_seat : Cal P w K mg base 1 "_law_seat" ["m", "w"] (spSeat K)) (C__law_closed : Cal P w K mg base 3 "_law_closed" ["m", "w"] (spClosed K)) : FnOk P w K mg base CX0 4 f fd ["m"] (spFresh K) := by
  refine F.ok sc__law_fresh (fun vs H Q E h => ?_) (fun cdv A outer s H vs Q E hr h => ?_)
  · obtain ⟨m, kvs, pa, xs, ps, ga, ys, gs, rfl, _⟩ := h
    rfl
  · obtain ⟨m, kvs, pa, xs, ps, ga, ys, gs, rfl, hm, hpa, hga, ha, hea, hb, heb, ok, hpl, q⟩ := h
    have hu := hu_of hr
    refine ⟨_, (pss_cons (ps_set (i := 1) sc__law_fresh.nd rfl (.inl rfl) (pe_disp (pps_cons pe_str (pe_lst pa_nil) (pps_cons pe_str pe_dnewK (pps_cons pe_str pe_dnewK (pps_cons pe_str pe_int pps_nil)))) (by rfl) (by rfl) (fun z => by cases z) (by decide)))
 (pss_cons (ps_expr (pe_cal C__law_seat (by decide) hr (by rfl) (pa_cons (pv 0) (pa_cons (pv 1) pa_nil))))
 (pss_cons (ps_expr (pe_cal C__law_closed (by decide) hr (by rfl) (pa_cons (pv 0) (pa_cons (pv 1) pa_nil))))
 (pss_one (ps_ret (pv 1)))))), ?_⟩
    refine fun ww nw => ⟨Nat.zero_le _, fun g ng => ?_⟩
    intro u nu s' ns
    have s1 : Same H (upd H ww (.dK [])) := Same.new nw
    have s2 := s1.trans (Same.new (o := .lst []) ng)
    have s3 := s2.trans (Same.new (o := .dK []) nu)
    have s4 := s3.trans (Same.new (o := .dK []) ns)
    have hw1 : (upd H ww (.dK [])) ww = some (.dK []) := upd_same
    have wg : ww ≠ g := ne_of_none hw1 ng
    have hw2 : (upd (upd H ww (.dK [])) g (.lst [])) ww = some (.dK []) := by rw [upd_ne wg]; exact hw1
    have wu : ww ≠ u := ne_of_none hw2 nu
    have hw3 : (upd (upd (upd H ww (.dK [])) g (.lst [])) u (.dK [])) ww = some (.dK []) := by rw [upd_ne wu]; exact hw2
    have ws : ww ≠ s' := ne_of_none hw3 ns
    have gu : g ≠ u := ne_of_none upd_same nu
    have hg3 : (upd (upd (upd H ww (.dK [])) g (.lst [])) u (.dK [])) g = some (.lst []) := by rw [upd_ne gu, upd_same]
    have gs' : g ≠ s' := ne_of_none hg3 ns
    have us' : u ≠ s' := ne_of_none upd_same ns
    have nw0 := nw
    have ng0 := s1.free ng
    have nu0 := s2.free nu
    have ns0 := s3.free ns
    refine ⟨by rw [upd_ne ws]; exact hw3, [(.inr "gone", .ref g), (.inr "uses", .ref u), (.inr "since", .ref s'), (.inr "count", .int 0)], rfl, by show 4 ≤ 15; decide, ?_⟩
    have em : mergeK [] [((.inr "gone" : Key), V.ref g), (.inr "uses", .ref u), (.inr "since", .ref s'), (.inr "count", .int 0)] = wkv g u s' 0 := by with_unfolding_all rfl
    rw [em]
    obtain ⟨H5, e5⟩ : ∃ H5, H5 = upd (upd (upd (upd (upd H ww (.dK [])) g (.lst [])) u (.dK [])) s' (.dK [])) ww (.dK (wkv g u s' 0)) := ⟨_, rfl⟩
    have s5 : Same H H5 := by rw [e5]; exact Same.at s4 nw
    have W5 : WAt H5 ww g u s' 0 [] [] [] := by
      rw [e5]
      exact ⟨upd_same, by rw [upd_ne wg.symm, upd_ne gs']; exact hg3, by rw [upd_ne wu.symm, upd_ne us', upd_same]; rfl, by rw [upd_ne ws.symm, upd_same]; rfl, wu, us'.symm⟩
    rw [← e5]
    have gl := ok.gl
    refine ⟨.ref m, rfl, .ref ww, rfl, m, ww, kvs, ga, ys, gs, g, u, s', 0, [], [], [], rfl, s5 _ _ hm, hga, ne_of_none hm nu0, Same.sq s5 hb, heb.imp fun _ _ r => GateAt.kt (Same.kt s5) r, W5, by simp; omega, by simp, hpl, fun H6 k6 W6 => ?_⟩
    have s6 : Same H H6 := fun b o e => k6 _ _ (s5 _ _ e) (ne_of_none e nu0)
    refine ⟨.ref m, rfl, .ref ww, rfl, m, ww, kvs, pa, xs, ps, ga, ys, gs, g, u, s', 0, [], seat0 gs, [], rfl, s6 _ _ hm, hpa, hga, Same.sq s6 ha, hea.imp fun _ _ r => PartAt.kt (Same.kt s6) r, Same.sq s6 hb, heb.imp fun _ _ r => GateAt.kt (Same.kt s6) r, W6, ok, fun H7 s7 k7 n7 W7 => ?_⟩
    have sm7 : Same H H7 := fun b o e => k7 _ _ (s6 _ _ e) (ne_of_none e nw0)
    exact ⟨.ref ww, rfl, q H7 ww g u s7 sm7 nw0 ng0 nu0 (s6.free n7) W7⟩
end
end Kf

set_option Elab.async false
set_option linter.all false
set_option maxRecDepth 100000
set_option maxHeartbeats 2000000
namespace Kf
open PySem PySem.Spec PyProof.Rows L2 LamX NdefX
/-! ## the two accounts of the beginning agree -/
def spareN : G → Option Str
  | .spare n _ => some n
  | _ => none
def spares (gs : List G) : List Str := gs.filterMap spareN
def core1 (acc : Uses) : G → Uses
  | .spare n ps => acc ++ [(n, (ps.filter fun p => !decide (p ∈ acc.map (·.2))).headD emptyS)]
  | _ => acc
/-- the keys so far and those to come differ -/
def Dis (acc : Uses) (gs : List G) : Prop := (acc.map (·.1) ++ spares gs).Nodup
def Full (gs : List G) : Prop := ∀ n ps, G.spare n ps ∈ gs → ∀ p ∈ ps, p ≠ emptyS
theorem setA_new {l : Uses} {n x : Str} (h : ¬ n ∈ l.map (·.1)) : setA l n x = l ++ [(n, x)] := by
  unfold setA
  rw [if_neg]
  intro e
  obtain ⟨p, hp, h2⟩ := List.any_eq_true.mp e
  exact h (List.mem_map.mpr ⟨p, hp, of_decide_eq_true h2⟩)
theorem map_no {l : Uses} {n x : Str} (h : ¬ n ∈ l.map (·.1)) : l.map (fun p => if p.1 = n then (p.1, x) else p) = l := by
  have e : ∀ p ∈ l, (if p.1 = n then (p.1, x) else p) = p := fun p hp => if_neg fun e => h (List.mem_map.mpr ⟨p, hp, e⟩)
  exact (List.map_congr_left e).trans (List.map_id' l)
theorem setA_mid {a b : Uses} {n x y : Str} (h1 : ¬ n ∈ a.map (·.1)) (h2 : ¬ n ∈ b.map (·.1)) : setA (a ++ (n, y) :: b) n x = a ++ (n, x) :: b := by
  unfold setA
  rw [if_pos (by simp), List.map_append, List.map_cons, map_no h1, map_no h2, if_pos rfl]
theorem getA_new {l : Uses} {n : Str} (h : ¬ n ∈ l.map (·.1)) : getA l n = none := by
  unfold getA
  cases e : l.find? fun p => decide (p.1 = n) with
  | none => rfl
  | some p =>
    have h1 := List.mem_of_find?_eq_some e
    have h2 := List.find?_some e
    exact absurd (List.mem_map.mpr ⟨p, h1, by simpa using h2⟩) h
theorem getA_mid {a b : Uses} {n y : Str} (h1 : ¬ n ∈ a.map (·.1)) : getA (a ++ (n, y) :: b) n = some y := by
  unfold getA
  have e : a.find? (fun p => decide (p.1 = n)) = none := List.find?_eq_none.mpr fun p hp => by
    simp only [decide_eq_true_eq]
    exact fun e => h1 (List.mem_map.mpr ⟨p, hp, e⟩)
  rw [List.find?_append, e]
  simp
theorem freeOf_core {us acc : Uses} {ps : List Str} (hp : ∀ p ∈ ps, p ≠ emptyS) (h : ∀ x, x ≠ emptyS → (x ∈ us.map (·.2) ↔ x ∈ acc.map (·.2))) : freeOf [] us ps = ps.filter fun p => !decide (p ∈ acc.map (·.2)) := by
  unfold freeOf
  refine List.filter_congr fun p hpp => ?_
  have e := h p (hp p hpp)
  by_cases h2 : p ∈ acc.map (·.2)
  · simp [h2, e.mpr h2]
  · have h3 : ¬ p ∈ us.map (·.2) := fun z => h2 (e.mp z)
    simp [h2, h3]
theorem Dis.spare {acc : Uses} {n : Str} {ps : List Str} {r : List G} {v : Str} (h : Dis acc (.spare n ps :: r)) : ¬ n ∈ acc.map (·.1) ∧ ¬ n ∈ spares r ∧ Dis (acc ++ [(n, v)]) r := by
  have h' : (acc.map (·.1) ++ n :: spares r).Nodup := h
  have h1 := List.nodup_append.mp h'
  have h2 := List.nodup_cons.mp h1.2.1
  refine ⟨fun z => h1.2.2 n z n (List.mem_cons_self ..) rfl, h2.1, ?_⟩
  unfold Dis
  rw [List.map_append, List.append_assoc]
  exact h'
theorem seat_core : ∀ (gs : List G) (acc : Uses), Dis acc gs → Full gs → seatU [] acc gs = gs.foldl core1 acc
  | [], _, _, _ => rfl
  | g :: r, acc, hd, hf => by
    have hfr : Full r := fun n ps h => hf n ps (List.mem_cons_of_mem _ h)
    cases g with
    | spare n ps =>
      have h123 := fun v => Dis.spare (v := v) hd
      have h1 := (h123 emptyS).1
      have h3 := fun v => (h123 v).2.2
      have hp := hf n ps (List.mem_cons_self ..)
      have e1 : seat1 [] acc (.spare n ps) = core1 acc (.spare n ps) := by
        show (if (getA acc n).getD emptyS = emptyS ∨ (getA acc n).getD emptyS ∈ [] then setA (setA acc n emptyS) n ((freeOf [] (setA acc n emptyS) ps).headD emptyS) else acc) = _
        rw [if_pos (.inl (by rw [getA_new h1]; rfl)), setA_new h1, setA_mid h1 (by simp), freeOf_core (acc := acc) hp]
        · rfl
        · intro x hx
          rw [List.map_append, List.mem_append]
          simp [hx]
      show seatU [] (seat1 [] acc (.spare n ps)) r = r.foldl core1 (core1 acc (.spare n ps))
      rw [e1]
      exact seat_core r _ (h3 _) hfr
    | all n ins => exact seat_core r acc hd hfr
    | any n ins => exact seat_core r acc hd hfr
    | least n m ins => exact seat_core r acc hd hfr
    | before n x y => exact seat_core r acc hd hfr
theorem take_core : ∀ (gs : List G) (acc : Uses), Dis acc gs → Full gs → takeU [] (acc ++ (spares gs).map fun n => (n, emptyS)) gs = gs.foldl core1 acc
  | [], acc, _, _ => by simp [takeU, spares]
  | g :: r, acc, hd, hf => by
    have hfr : Full r := fun n ps h => hf n ps (List.mem_cons_of_mem _ h)
    cases g with
    | spare n ps =>
      have h123 := fun v => Dis.spare (v := v) hd
      have h1 := (h123 emptyS).1
      have h2 := (h123 emptyS).2.1
      have h3 := fun v => (h123 v).2.2
      have hp := hf n ps (List.mem_cons_self ..)
      have h2' : ¬ n ∈ ((spares r).map fun n => (n, emptyS)).map (·.1) := by
        rw [List.map_map]
        simpa using h2
      have es : (spares (.spare n ps :: r)).map (fun n => (n, emptyS)) = (n, emptyS) :: (spares r).map fun n => (n, emptyS) := rfl
      have e1 : take1 [] (acc ++ (n, emptyS) :: (spares r).map fun n => (n, emptyS)) (.spare n ps) = core1 acc (.spare n ps) ++ (spares r).map fun n => (n, emptyS) := by
        show (if (getA _ n).getD emptyS = emptyS ∨ (getA _ n).getD emptyS ∈ [] then setA _ n ((freeOf [] _ ps).headD emptyS) else _) = _
        rw [if_pos (.inl (by rw [getA_mid h1]; rfl)), setA_mid h1 h2', freeOf_core (acc := acc) hp]
        · show _ = (acc ++ [(n, _)]) ++ _
          rw [List.append_assoc]
          rfl
        · intro x hx
          rw [List.map_append, List.mem_append, List.map_cons, List.mem_cons, List.map_map]
          constructor
          · rintro (h | h | h)
            · exact h
            · exact absurd h hx
            · obtain ⟨y, _, e⟩ := List.mem_map.mp h
              exact absurd e.symm hx
          · exact .inl
      show takeU [] (take1 [] (acc ++ (spares (.spare n ps :: r)).map fun n => (n, emptyS)) (.spare n ps)) r = r.foldl core1 (core1 acc (.spare n ps))
      rw [es, e1]
      exact take_core r _ (h3 _) hfr
    | all n ins => exact take_core r acc hd hfr
    | any n ins => exact take_core r acc hd hfr
    | least n m ins => exact take_core r acc hd hfr
    | before n x y => exact take_core r acc hd hfr
theorem init_core : ∀ (gs : List G) (acc : Uses), Dis acc gs → gs.foldl init1 acc = acc ++ (spares gs).map fun n => (n, emptyS)
  | [], acc, _ => by simp [spares]
  | g :: r, acc, hd => by
    cases g with
    | spare n ps =>
      obtain ⟨h1, _, h3⟩ := Dis.spare (v := emptyS) hd
      show r.foldl init1 (setA acc n emptyS) = _
      rw [setA_new h1, init_core r _ h3, List.append_assoc]
      rfl
    | all n ins => exact init_core r acc hd
    | any n ins => exact init_core r acc hd
    | least n m ins => exact init_core r acc hd
    | before n x y => exact init_core r acc hd
theorem spares_sub : ∀ gs : List G, (spares gs).Sublist (gs.map G.name)
  | [] => List.Sublist.refl _
  | g :: r => by
    cases g with
    | spare n ps => exact List.Sublist.cons_cons n (spares_sub r)
    | all n ins => exact List.Sublist.cons n (spares_sub r)
    | any n ins => exact List.Sublist.cons n (spares_sub r)
    | least n m ins => exact List.Sublist.cons n (spares_sub r)
    | before n x y => exact List.Sublist.cons n (spares_sub r)
theorem first_eq {gs : List G} (nd : (gs.map G.name).Nodup) (hf : Full gs) : seat0 gs = firstU gs := by
  have hd : Dis [] gs := nd.sublist (spares_sub gs)
  unfold seat0 firstU initU
  rw [init_core gs [] hd, seat_core gs [] hd hf, take_core gs [] hd hf]
theorem lawTr_eq {us : Uses} {ps : List (Str × Str)} {gs : List G} : lawTr [] us [] 0 ps gs = tellM noBefore [] us ps gs := by
  have e : tell1 (lawBf us [] 0) us = tell1 noBefore us := by
    funext tr g
    unfold tell1
    rw [truth1_law]
    cases g with
    | before n x y =>
      show setA tr n (lookT tr x && (lookT tr y && decide ((0 : Int) < 0))) = setA tr n false
      simp
    | _ => rfl
  unfold lawTr tellM
  rw [e]
end Kf

set_option Elab.async false
set_option linter.all false
set_option maxRecDepth 100000
set_option maxHeartbeats 2000000
namespace Kf
open PySem PySem.Spec PyProof.Rows L2 LamX NdefX TL
/-! ## plants of drawn words -/
def GP (labels : List Str) (gs : List G) : Prop := ∀ j g, gs[j]? = some g → GateOk labels (labels ++ (gs.take j).map G.name) g
theorem GP.nil {labels : List Str} : GP labels [] := fun j g h => by simp at h
theorem GP.snoc {labels : List Str} {gs : List G} {g : G} (h : GP labels gs) (hg : GateOk labels (labels ++ gs.map G.name) g) : GP labels (gs ++ [g]) := fun j x hx => by
  by_cases hj : j < gs.length
  · rw [List.getElem?_append_left hj] at hx
    rw [List.take_append_of_le_length (Nat.le_of_lt hj)]
    exact h j x hx
  · rw [List.getElem?_append_right (by omega)] at hx
    have e : j - gs.length = 0 := by
      by_cases h0 : j - gs.length = 0
      · exact h0
      · rw [List.getElem?_eq_none (by simp; omega)] at hx
        cases hx
    have ej : j = gs.length := by omega
    subst ej
    rw [e] at hx
    cases hx
    rw [List.take_left]
    exact hg
theorem choice_le {l names : List Str} (h : ChoiceOk l names) : l.length ≤ names.length := pigeon h.nd h.sub
theorem GP.at {labels : List Str} {gs : List G} (h : GP labels gs) {g : G} (hg : g ∈ gs) : ∃ names, GateOk labels names g := by
  obtain ⟨i, hi⟩ := List.mem_iff_getElem?.mp hg
  exact ⟨_, h i g hi⟩
theorem GP.pool {labels : List Str} {gs : List G} (h : GP labels gs) : ∀ n ps, G.spare n ps ∈ gs → ps.length ≤ labels.length := fun n ps hm => by
  obtain ⟨names, ok⟩ := h.at hm
  exact choice_le ok.ins
theorem GP.full {labels : List Str} {gs : List G} (h : GP labels gs) (hl : ∀ x ∈ labels, NameOk x) : Full gs := fun n ps hm p hp e => by
  obtain ⟨names, ok⟩ := h.at hm
  have h1 := (hl p (ChoiceOk.sub ok.ins p hp)).lo
  rw [e] at h1
  exact absurd h1 (by decide +kernel)
theorem tellOk_of {ps : List (Str × Str)} {gs : List G} (h : GP (ps.map (·.1)) gs) (h1 : ps.length ≤ 400) (h2 : gs.length ≤ 400) {us : Uses} (hu : SpareIn us gs) : TellOk ps us gs := by
  refine ⟨fun i g hg => ?_, h1, h2⟩
  have ok := (h i g hg).ins
  have hm := List.mem_of_getElem? hg
  cases g with
  | all n ins => exact ⟨ChoiceOk.sub ok, ChoiceOk.len ok⟩
  | any n ins => exact ⟨ChoiceOk.sub ok, ChoiceOk.len ok⟩
  | least n m ins => exact ⟨ChoiceOk.sub ok.1, ChoiceOk.len ok.1⟩
  | before n x y => exact ⟨ok.sub x (by simp), ok.sub y (by simp)⟩
  | spare n qs => exact hu n qs hm
theorem firstU_spare (gs : List G) : SpareIn (firstU gs) gs := fun n ps h => by
  have e := takeU_keys (fl := []) (gs := gs) (us := initU gs) (initU_spare gs)
  have e2 := any_keys e n
  show ((takeU [] (initU gs) gs).any fun p => decide (p.1 = n)) = true
  rw [e2]
  exact initU_spare gs n ps h
theorem getA_setA {α : Type} {l : List (Str × α)} {n m : Str} {x : α} : getA (setA l n x) m = if m = n then some x else getA l m := by
  induction l with
  | nil =>
    by_cases h : m = n
    · subst h
      simp [setA, getA]
    · simp [setA, getA, h, Ne.symm h]
  | cons p r ih =>
    have key : ∀ (l : List (Str × α)), (l.any fun p => decide (p.1 = n)) = true → getA (l.map fun p => if p.1 = n then (p.1, x) else p) m = if m = n then some x else getA l m := by
      intro l
      induction l with
      | nil => intro h; cases h
      | cons p r ih2 =>
        intro h
        rw [List.map_cons]
        by_cases hp : p.1 = n
        · rw [if_pos hp]
          by_cases hm : m = n
          · subst hm
            simp [getA, hp]
          · rw [if_neg hm]
            have h1 : ¬ p.1 = m := fun e => hm (e.symm.trans hp)
            have e1 : getA ((p.1, x) :: r.map fun p => if p.1 = n then (p.1, x) else p) m = getA (r.map fun p => if p.1 = n then (p.1, x) else p) m := by simp [getA, h1]
            have e2 : getA (p :: r) m = getA r m := by simp [getA, h1]
            rw [e1, e2]
            by_cases hr : (r.any fun p => decide (p.1 = n)) = true
            · rw [ih2 hr, if_neg hm]
            · have : r.map (fun p => if p.1 = n then (p.1, x) else p) = r := by
                have e : ∀ q ∈ r, (if q.1 = n then (q.1, x) else q) = q := fun q hq => if_neg fun e => hr (List.any_eq_true.mpr ⟨q, hq, decide_eq_true e⟩)
                exact (List.map_congr_left e).trans (List.map_id' r)
              rw [this]
        · rw [if_neg hp]
          have hr : (r.any fun p => decide (p.1 = n)) = true := by
            rw [List.any_cons, decide_eq_false hp, Bool.false_or] at h
            exact h
          by_cases hpm : p.1 = m
          · have hm : ¬ m = n := fun e => hp (hpm.trans e)
            rw [if_neg hm]
            simp [getA, hpm]
          · have e1 : getA (p :: r.map fun p => if p.1 = n then (p.1, x) else p) m = getA (r.map fun p => if p.1 = n then (p.1, x) else p) m := by simp [getA, hpm]
            have e2 : getA (p :: r) m = getA r m := by simp [getA, hpm]
            rw [e1, e2, ih2 hr]
    unfold setA
    by_cases h : ((p :: r).any fun p => decide (p.1 = n)) = true
    · rw [if_pos h, key _ h]
    · rw [if_neg h]
      unfold getA
      rw [List.find?_append]
      by_cases hm : m = n
      · subst hm
        have e : (p :: r).find? (fun q => decide (q.1 = m)) = none := List.find?_eq_none.mpr fun q hq hq2 => h (List.any_eq_true.mpr ⟨q, hq, hq2⟩)
        rw [e, if_pos rfl]
        simp
      · rw [if_neg hm]
        have e : [(n, x)].find? (fun q => decide (q.1 = m)) = none := by simp [Ne.symm hm]
        rw [e]
        cases (p :: r).find? (fun q => decide (q.1 = m)) <;> rfl
theorem look_set {tr : Tr} {n m : Str} {b : Bool} : lookT (setA tr n b) m = if m = n then b else lookT tr m := by
  unfold lookT
  rw [getA_setA]
  split <;> rfl
theorem look_parts {ps : List (Str × Str)} {m : Str} : lookT (partsTr [] ps) m = false := by
  have key : ∀ (ps : List (Str × Str)) (tr : Tr), lookT tr m = false → lookT (ps.foldl (part1 []) tr) m = false := by
    intro ps
    induction ps with
    | nil => exact fun tr h => h
    | cons p r ih =>
      intro tr h
      refine ih _ ?_
      show lookT (setA tr p.1 (decide (p.1 ∈ []))) m = false
      rw [look_set]
      split
      · simp
      · exact h
  exact key ps [] rfl
theorem look_tell {bf : G → Tr → Bool} {us : Uses} {m : Str} : ∀ (gs : List G) (tr : Tr), ¬ m ∈ gs.map G.name → lookT (gs.foldl (tell1 bf us) tr) m = lookT tr m
  | [], tr, _ => rfl
  | g :: r, tr, h => by
    have h1 : ¬ m = g.name := fun e => h (by rw [e]; exact List.mem_cons_self ..)
    have h2 : ¬ m ∈ r.map G.name := fun e => h (List.mem_cons_of_mem _ e)
    rw [List.foldl_cons, look_tell r _ h2]
    unfold tell1
    rw [look_set, if_neg h1]
/-- a last gate of all parts is false at the beginning -/
theorem all_false {us : Uses} {ps : List (Str × Str)} {gs : List G} {tp : Str} (h1 : ∀ x ∈ ps.map (·.1), ¬ x ∈ gs.map G.name) (h2 : ps ≠ []) : lookT (tellM noBefore [] us ps (gs ++ [.all tp (ps.map (·.1))])) tp = false := by
  unfold tellM
  rw [List.foldl_append]
  show lookT (tell1 noBefore us (gs.foldl (tell1 noBefore us) (partsTr [] ps)) (.all tp (ps.map (·.1)))) tp = false
  have e : tell1 noBefore us (gs.foldl (tell1 noBefore us) (partsTr [] ps)) (.all tp (ps.map (·.1))) = setA (gs.foldl (tell1 noBefore us) (partsTr [] ps)) tp ((ps.map (·.1)).all (lookT (gs.foldl (tell1 noBefore us) (partsTr [] ps)))) := rfl
  rw [e, look_set, if_pos rfl]
  cases ps with
  | nil => exact absurd rfl h2
  | cons p r =>
    rw [List.map_cons, List.all_cons, look_tell gs _ (h1 p.1 (List.mem_cons_self ..)), look_parts]
    rfl
theorem notin_take {l : List Str} (nd : l.Nodup) {k : Nat} (hk : k < l.length) : ¬ l[k] ∈ l.take k := fun hm => by
  obtain ⟨j, hj, e⟩ := List.mem_iff_getElem.mp hm
  rw [List.getElem_take] at e
  rw [List.length_take] at hj
  exact (List.pairwise_iff_getElem.mp nd) j k (by omega) hk (by omega) e
/-- the words of a plant: labels ahead, gates from the eighth on -/
theorem word_new {ws : List Str} (nd : ws.Nodup) (hl : ws.length = 16) {n t j : Nat} (hn : n ≤ 8) (ht : t ≤ j) (hj : j < 8) : ¬ ws[8 + j]'(by omega) ∈ ws.take n ++ (ws.drop 8).take t := fun hm => by
  refine notin_take nd (k := 8 + j) (by omega) ?_
  rcases List.mem_append.mp hm with h | h
  · exact (List.take_subset_take_left ws (by omega : n ≤ 8 + j)) h
  · have e : (ws.drop 8).take j = (ws.take (8 + j)).drop 8 := by rw [List.drop_take]; congr 1; omega
    have h2 : ws[8 + j]'(by omega) ∈ (ws.drop 8).take j := (List.take_subset_take_left _ ht) h
    rw [e] at h2
    exact List.mem_of_mem_drop h2
theorem words_nodup {ws : List Str} (nd : ws.Nodup) {n t : Nat} (hn : n ≤ 8) : (ws.take n ++ (ws.drop 8).take t).Nodup := by
  have e : ws = ws.take 8 ++ ws.drop 8 := (List.take_append_drop 8 ws).symm
  have s : (ws.take n ++ (ws.drop 8).take t).Sublist (ws.take 8 ++ ws.drop 8) := List.Sublist.append (List.take_sublist_take_left hn) (List.take_sublist ..)
  rw [← e] at s
  exact nd.sublist s
end Kf

set_option Elab.async false
set_option linter.all false
set_option maxRecDepth 100000
set_option maxHeartbeats 2000000
namespace Kf
open PySem PySem.Spec PyProof.Rows L2 LamX NdefX TL
def mkv (pa ca ga : Addr) : List (Key × V) := [(.inr "parts", .ref pa), (.inr "causes", .ref ca), (.inr "gates", .ref ga)]
def mkv4 (pa ca ga : Addr) (tp : V) : List (Key × V) := [(.inr "parts", .ref pa), (.inr "causes", .ref ca), (.inr "gates", .ref ga), (.inr "top", tp)]
section
variable {pa ca ga : Addr} {tp : V}
theorem mk_p : valV (mkv pa ca ga) (.inr "parts") = some (.ref pa) := by with_unfolding_all rfl
theorem mk_c : valV (mkv pa ca ga) (.inr "causes") = some (.ref ca) := by with_unfolding_all rfl
theorem mk_g : valV (mkv pa ca ga) (.inr "gates") = some (.ref ga) := by with_unfolding_all rfl
theorem mk_put : putK (mkv pa ca ga) (.inr "top") tp = mkv4 pa ca ga tp := by with_unfolding_all rfl
theorem mk4_p : valV (mkv4 pa ca ga tp) (.inr "parts") = some (.ref pa) := by with_unfolding_all rfl
theorem mk4_c : valV (mkv4 pa ca ga tp) (.inr "causes") = some (.ref ca) := by with_unfolding_all rfl
theorem mk4_g : valV (mkv4 pa ca ga tp) (.inr "gates") = some (.ref ga) := by with_unfolding_all rfl
theorem mk4_t : valV (mkv4 pa ca ga tp) (.inr "top") = some tp := by with_unfolding_all rfl
end
theorem gK {H : Hp} {m : Addr} {kvs : List (Key × V)} {k : Str} {v : V} (h : H m = some (.dK kvs)) (e : valV kvs (.inr k) = some v) : DGet H m (.str k) (some v) := by
  have q := DGet.k (k := .inr k) h
  rw [e] at q
  exact q
theorem Kp.free {d L p : Addr} {H H' : Hp} (k : Kp d L H H') (h : H' p = none) (n1 : p ≠ d) (n2 : p ≠ L) : H p = none := by
  cases e : H p with
  | none => rfl
  | some o =>
    rw [k p o e n1 n2] at h
    cases h
/-- what does not change while a plant is drawn -/
structure PStat (d L C : Addr) (H0 : Hp) (wa la m pa ca ga : Addr) : Prop where
  md : m ≠ d
  mL : m ≠ L
  paL : pa ≠ L
  caL : ca ≠ L
  gaL : ga ≠ L
  laL : la ≠ L
  waL : wa ≠ L
  caC : ca ≠ C
  gaC : ga ≠ C
  gp : ga ≠ pa
  gc : ga ≠ ca
  gl : ga ≠ la
  gw : ga ≠ wa
  cp : ca ≠ pa
  cl : ca ≠ la
  cw : ca ≠ wa
  nca : H0 ca = none
  nga : H0 ga = none
  nm : H0 m = none
structure PSt (K : PySem.W.Frag) (d L C : Addr) (H0 : Hp) (wa la m pa ca ga : Addr) (ws lab : List Str) (kvs : List (Key × V)) (xs : List V) (ps : List (Str × Str)) (zs : List V) (cs : List (Str × List Str)) (ys : List V) (gs : List G) (H : Hp) : Prop where
  D : Dr H d L C
  kp : Kp d L H0 H
  hm : H m = some (.dK kvs)
  hpa : H pa = some (.lst xs)
  hea : Each (PartAt K H) xs ps
  hca : H ca = some (.lst zs)
  hec : Each (CauseAt K H) zs cs
  hga : H ga = some (.lst ys)
  heg : Each (GateAt K H) ys gs
  hla : H la = some (.lst (sV lab))
  hwa : H wa = some (.lst (sV ws))
section
variable {K : PySem.W.Frag} {d L C : Addr} {H0 : Hp} {wa la m pa ca ga : Addr} {ws lab : List Str} {kvs : List (Key × V)} {xs : List V} {ps : List (Str × Str)} {zs : List V} {cs : List (Str × List Str)} {ys : List V} {gs : List G} {H H' : Hp}
theorem PSt.next (S : PSt K d L C H0 wa la m pa ca ga ws lab kvs xs ps zs cs ys gs H) (N : PStat d L C H0 wa la m pa ca ga) (k : Kp d L H H') (D' : Dr H' d L C) : PSt K d L C H0 wa la m pa ca ga ws lab kvs xs ps zs cs ys gs H' :=
  ⟨D', S.kp.trans k, k _ _ S.hm N.md N.mL, k.lst S.D N.paL S.hpa, S.hea.imp fun _ _ r => PartAt.kt (k.kt S.D) r, k.lst S.D N.caL S.hca, S.hec.imp fun _ _ r => CauseAt.kt (k.kt S.D) r, k.lst S.D N.gaL S.hga, S.heg.imp fun _ _ r => GateAt.kt (k.kt S.D) r, k.lst S.D N.laL S.hla, k.lst S.D N.waL S.hwa⟩
theorem PSt.same (S : PSt K d L C H0 wa la m pa ca ga ws lab kvs xs ps zs cs ys gs H) (N : PStat d L C H0 wa la m pa ca ga) (s : Same H H') : PSt K d L C H0 wa la m pa ca ga ws lab kvs xs ps zs cs ys gs H' := S.next N (Same.kp s) (S.D.same s)
theorem kt_lst {K : PySem.W.Frag} {H : Hp} {a : Addr} {l l' : List V} (h : H a = some (.lst l)) : KT K H (upd H a (.lst l')) := fun b xs hb => by
  rcases hb with (h2 | ⟨o, h2⟩) | h2
  · exact .inl (.inl (by rw [upd_ne (ne_of h2 h (by intro z; cases z))]; exact h2))
  · exact .inl (.inr ⟨o, by rw [upd_ne (ne_of h2 h (by intro z; cases z))]; exact h2⟩)
  · exact .inr h2
theorem PSt.gate (S : PSt K d L C H0 wa la m pa ca ga ws lab kvs xs ps zs cs ys gs H) (N : PStat d L C H0 wa la m pa ca ga) {ys' : List V} {gs' : List G} (he : Each (GateAt K H) ys' gs') : PSt K d L C H0 wa la m pa ca ga ws lab kvs xs ps zs cs ys' gs' (upd H ga (.lst ys')) := by
  have kt := kt_lst (K := K) (l' := ys') S.hga
  exact ⟨S.D.lst S.hga N.gaL N.gaC _, S.kp.at N.nga, by rw [upd_ne (ne_of S.hm S.hga (by intro z; cases z))]; exact S.hm, by rw [upd_ne N.gp.symm]; exact S.hpa, S.hea.imp fun _ _ r => PartAt.kt kt r, by rw [upd_ne N.gc.symm]; exact S.hca, S.hec.imp fun _ _ r => CauseAt.kt kt r, upd_same, he.imp fun _ _ r => GateAt.kt kt r,
    by rw [upd_ne N.gl.symm]; exact S.hla, by rw [upd_ne N.gw.symm]; exact S.hwa⟩
theorem PSt.cause (S : PSt K d L C H0 wa la m pa ca ga ws lab kvs xs ps zs cs ys gs H) (N : PStat d L C H0 wa la m pa ca ga) {zs' : List V} {cs' : List (Str × List Str)} (he : Each (CauseAt K H) zs' cs') : PSt K d L C H0 wa la m pa ca ga ws lab kvs xs ps zs' cs' ys gs (upd H ca (.lst zs')) := by
  have kt := kt_lst (K := K) (l' := zs') S.hca
  exact ⟨S.D.lst S.hca N.caL N.caC _, S.kp.at N.nca, by rw [upd_ne (ne_of S.hm S.hca (by intro z; cases z))]; exact S.hm, by rw [upd_ne N.cp.symm]; exact S.hpa, S.hea.imp fun _ _ r => PartAt.kt kt r, upd_same, he.imp fun _ _ r => CauseAt.kt kt r, by rw [upd_ne N.gc]; exact S.hga, S.heg.imp fun _ _ r => GateAt.kt kt r,
    by rw [upd_ne N.cl.symm]; exact S.hla, by rw [upd_ne N.cw.symm]; exact S.hwa⟩
end
structure M4 (K : PySem.W.Frag) (d L : Addr) (H : Hp) (m : Addr) (ps : List (Str × Str)) (cs : List (Str × List Str)) (gs : List G) (tp : Str) : Prop where
  ex : ∃ pa ca ga xs zs ys, H m = some (.dK (mkv4 pa ca ga (.str tp))) ∧ H pa = some (.lst xs) ∧ Each (PartAt K H) xs ps ∧ H ca = some (.lst zs) ∧ Each (CauseAt K H) zs cs ∧ H ga = some (.lst ys) ∧ Each (GateAt K H) ys gs ∧ m ≠ d ∧ pa ≠ L ∧ ca ≠ L ∧ ga ≠ L
section
variable {P : Program} {w : World} {K : PySem.W.Frag} {mg : Str → Option Value} {base : Heap}
def spPlantL (K : PySem.W.Frag) : Sp := fun vs H Q _ => ∃ d L C a b c, vs = [.ref d, .int (a : Nat), .int (b : Nat), .int (c : Nat)] ∧ Dr H d L C ∧ 1 ≤ a ∧ a ≤ 8 ∧ 1 ≤ b ∧ b ≤ 7 ∧ c ≤ 4 ∧
  ∀ H' m ps cs gs tp, Dr H' d L C → Kp d L H H' → H m = none → M4 K d L H' m ps cs gs tp → PlantOk ps gs cs tp → gs.length ≤ b → (∀ x ∈ ps.map (·.1) ++ gs.map G.name, WordOk x) → Q (.ref m) H'
theorem Each.snoc {α : Type} {R : V → α → Prop} {xs : List V} {l : List α} {x : V} {p : α} (h : Each R xs l) (hx : R x p) : Each R (xs ++ [x]) (l ++ [p]) := by
  refine ⟨by simp [h.1], fun i y hy => ?_⟩
  by_cases hi : i < xs.length
  · rw [List.getElem?_append_left hi] at hy
    obtain ⟨q, hq, r⟩ := h.2 i y hy
    exact ⟨q, by rw [List.getElem?_append_left (by rw [← h.1]; exact hi)]; exact hq, r⟩
  · rw [List.getElem?_append_right (by omega)] at hy
    have e : i - xs.length = 0 := by
      by_cases h0 : i - xs.length = 0
      · exact h0
      · rw [List.getElem?_eq_none (by simp; omega)] at hy
        cases hy
    rw [e] at hy
    cases hy
    refine ⟨p, ?_, hx⟩
    have e2 : i = l.length := by have := h.1; omega
    subst e2
    simp
theorem Each.nil {α : Type} {R : V → α → Prop} : Each R [] ([] : List α) := ⟨rfl, fun i x h => by simp at h⟩
theorem Each.init {α : Type} {R : V → α → Prop} {xs : List V} {l : List α} {x : V} {p : α} (h : Each R (xs ++ [x]) (l ++ [p])) : Each R xs l := by
  have hl : xs.length = l.length := by
    have := h.1
    simpa using this
  refine ⟨hl, fun i y hy => ?_⟩
  have hi : i < xs.length := (List.getElem?_eq_some_iff.mp hy).1
  obtain ⟨q, hq, r⟩ := h.2 i y (by rw [List.getElem?_append_left hi]; exact hy)
  exact ⟨q, by rw [List.getElem?_append_left (by omega)] at hq; exact hq, r⟩
theorem ok_plantL {f : Addr} {fd : FuncData} (F : L2.Fun K "_law_plant" "_law_plant" s__law_plant f fd) (T : Nm mg) (C__law_take : Cal P w K mg base 1 "_law_take" ["draw", "size"] spTake) (C__law_pick : Cal P w K mg base 2 "_law_pick" ["draw", "some"] (spPick2 K)) (C__law_words : Cal P w K mg base 3 "_law_words" ["draw", "many"] spWords)
    (C__law_some : Cal P w K mg base 3 "_law_some" ["draw", "labels", "bound"] (spSome K)) (C__law_gate : Cal P w K mg base 4 "_law_gate" ["draw", "name", "pieces", "labels"] (spGate K)) (C__law_fresh : Cal P w K mg base 4 "_law_fresh" ["m"] (spFresh K)) : FnOk P w K mg base CX0 5 f fd ["draw", "most_parts", "most_gates", "most_causes"] (spPlantL K) := by
  refine F.ok sc__law_plant (fun vs H Q E h => ?_) (fun cdv A outer s H vs Q E hr h => ?_)
  · obtain ⟨d, L, C, a, b, c, rfl, _⟩ := h
    rfl
  · obtain ⟨d, L, C, ma, mb, mc, rfl, D, a1, a2, b1, b2, c2, q⟩ := h
    have hu := hu_of hr
    refine ⟨_, (pss_cons (ps_set (i := 4) sc__law_plant.nd rfl (.inl rfl) (pe_cal C__law_words (by decide) hr (by rfl) (pa_cons (pv 0) (pa_cons pe_int pa_nil))))
 (pss_cons (ps_set (i := 5) sc__law_plant.nd rfl (.inl rfl) (pe_slice sl_list (pv 4) po_none (po_some (pe_op op_add pe_int (pe_cal C__law_take (by decide) hr (by rfl) (pa_cons (pv 0) (pa_cons (pv 1) pa_nil)))))))
 (pss_cons (ps_set (i := 6) sc__law_plant.nd rfl (.inl rfl) (pe_disp (pps_cons pe_str (pe_lc (own := [("name", 10)]) (g := gName 10) (by rfl) sc__law_plant.nd (pi_list (pv 5)) (blkOk_by (own := [("name", 10)]) (N := ["draw", "most_parts", "most_gates", "most_causes", "words", "labels", "m", "k", "known", "inputs", "name", "gate"]) (sc := defScope s__law_plant) (by decide +kernel)) (fun _ _ _ _ _ => pg_name (i := 10) sc__law_plant.nd rfl (.inl rfl)) (fun _ _ _ _ _ => pts_nil) (fun _ _ _ _ _ => (pe_tup (pa_cons (pv 10) (pa_cons (pe_cal C__law_pick (by decide) hr (by rfl) (pa_cons (pv 0) (pa_cons (pe_lst (pa_cons pe_str (pa_cons pe_str (pa_cons pe_str pa_nil)))) pa_nil))) pa_nil))))) (pps_cons pe_str (pe_lst pa_nil) (pps_cons pe_str (pe_lst pa_nil) pps_nil))) (by rfl) (by rfl) (fun z => by cases z) (by decide)))
 (pss_cons (ps_for PassesOwn.never rfl (pi_range1 rfl T.n_range (pa_cons (pe_cal C__law_take (by decide) hr (by rfl) (pa_cons (pv 0) (pa_cons (pv 2) pa_nil))) pa_nil)) (pg_name (i := 7) sc__law_plant.nd rfl (.inl rfl))
 (pss_one (ps_expr (pe_bm PySem.F.plainAttrs_list PySem.F.slot_list_append PySem.F.type_list_append mt_append (pe_dget hu (pv 6) pe_str (fun _ _ => rfl)) (pa_cons (pe_cal C__law_gate (by decide) hr (by rfl) (pa_cons (pv 0) (pa_cons (pe_ix ix_list (pv 4) (pe_op op_add pe_int (pv 7)) (fun _ _ => rfl)) (pa_cons (pv 5) (pa_cons (pe_op op_cat (pv 5) (pe_lc (own := [("gate", 11)]) (g := gName 11) (by rfl) sc__law_plant.nd (pi_list (pe_dget hu (pv 6) pe_str (fun _ _ => rfl))) (blkOk_by (own := [("gate", 11)]) (N := ["draw", "most_parts", "most_gates", "most_causes", "words", "labels", "m", "k", "known", "inputs", "name", "gate"]) (sc := defScope s__law_plant) (by decide +kernel)) (fun _ _ _ _ _ => pg_name (i := 11) sc__law_plant.nd rfl (.inl rfl)) (fun _ _ _ _ _ => pts_nil) (fun _ _ _ _ _ => (pe_ix (ix_sqK (K := K) rfl) (pv 11) pe_int (fun _ _ => rfl))))) pa_nil))))) pa_nil)))))
 (pss_cons (ps_set (i := 8) sc__law_plant.nd rfl (.inl rfl) (pe_op op_cat (pv 5) (pe_lc (own := [("gate", 11)]) (g := gName 11) (by rfl) sc__law_plant.nd (pi_list (pe_dget hu (pv 6) pe_str (fun _ _ => rfl))) (blkOk_by (own := [("gate", 11)]) (N := ["draw", "most_parts", "most_gates", "most_causes", "words", "labels", "m", "k", "known", "inputs", "name", "gate"]) (sc := defScope s__law_plant) (by decide +kernel)) (fun _ _ _ _ _ => pg_name (i := 11) sc__law_plant.nd rfl (.inl rfl)) (fun _ _ _ _ _ => pts_nil) (fun _ _ _ _ _ => (pe_ix (ix_sqK (K := K) rfl) (pv 11) pe_int (fun _ _ => rfl))))))
 (pss_cons (ps_set (i := 9) sc__law_plant.nd rfl (.inl rfl) (pe_cal C__law_some (by decide) hr (by rfl) (pa_cons (pv 0) (pa_cons (pv 8) (pa_cons pe_int pa_nil)))))
 (pss_cons (ps_expr (pe_bm PySem.F.plainAttrs_list PySem.F.slot_list_append PySem.F.type_list_append mt_append (pe_dget hu (pv 6) pe_str (fun _ _ => rfl)) (pa_cons (pe_tup (pa_cons (pe_ix ix_list (pv 4) pe_int (fun _ _ => rfl)) (pa_cons pe_str (pa_cons (pe_op op_add pe_int (pe_cal C__law_take (by decide) hr (by rfl) (pa_cons (pv 0) (pa_cons (pe_callB (call_lenK (K := K) rfl) (by rfl) T.n_len (by decide +kernel) (pa_cons (pv 9) pa_nil)) pa_nil)))) (pa_cons (pv 9) pa_nil))))) pa_nil)))
 (pss_cons (ps_for PassesOwn.never rfl (pi_range1 rfl T.n_range (pa_cons (pe_cal C__law_take (by decide) hr (by rfl) (pa_cons (pv 0) (pa_cons (pe_op op_add (pv 3) pe_int) pa_nil))) pa_nil)) (pg_name (i := 7) sc__law_plant.nd rfl (.inl rfl))
 (pss_one (ps_expr (pe_bm PySem.F.plainAttrs_list PySem.F.slot_list_append PySem.F.type_list_append mt_append (pe_dget hu (pv 6) pe_str (fun _ _ => rfl)) (pa_cons (pe_tup (pa_cons (pe_cal C__law_pick (by decide) hr (by rfl) (pa_cons (pv 0) (pa_cons (pv 8) pa_nil))) (pa_cons (pe_cal C__law_some (by decide) hr (by rfl) (pa_cons (pv 0) (pa_cons (pv 5) (pa_cons pe_int pa_nil)))) pa_nil))) pa_nil)))))
 (pss_cons (ps_dput hu (pv 6) pe_str (pe_ix ix_list (pv 4) pe_int (fun _ _ => rfl)) rfl)
 (pss_cons (ps_if (pt_cmp (pc_din hu (pe_ix ix_list (pv 4) pe_int (fun _ _ => rfl)) (pe_dget hu (pe_cal C__law_fresh (by decide) hr (by rfl) (pa_cons (pv 6) pa_nil)) pe_str (fun _ _ => rfl))) (by with_unfolding_all rfl))
 (pss_one (ps_asg (pe_tup (pa_cons (pe_ix ix_list (pv 4) pe_int (fun _ _ => rfl)) (pa_cons pe_str (pa_cons (pe_callTy (call_tupQ (K := K) rfl) (by rfl) T.n_tuple (by decide +kernel) (pa_cons (pv 5) pa_nil)) pa_nil)))) (pg_sub (pe_dget hu (pv 6) pe_str (fun _ _ => rfl)) (pe_un un_neg pe_int) set_list)))
 pss_nil)
 (pss_one (ps_ret (pv 6))))))))))))), ?_⟩
    -- the words
    refine ⟨.ref d, rfl, d, L, C, 16, rfl, D, by decide, fun H1 wa ws D1 k1 nwa waL hwa wl wnd wok => ?_⟩
    -- the labels
    refine ⟨.ref wa, rfl, .ref d, rfl, .int ma, rfl, d, L, C, ma, rfl, D1, by omega, by omega, fun H2 n D2 k2 n0 n1 => ⟨1, n, rfl, rfl, 1 + n, rfl, wa, _, rfl, .of (k2.lst D1 waL hwa), fun la nla => ?_⟩⟩
    obtain ⟨n, rfl⟩ : ∃ j : Nat, n = (j : Int) := ⟨n.toNat, by omega⟩
    have e1 : cutV (sV ws) none (some (1 + (n : Int))) = sV (ws.take (1 + n)) := by
      have e : (1 + (n : Int)) = ((1 + n : Nat) : Int) := by omega
      rw [e, cut_to (by simp [sV]; omega)]
      simp [sV, List.map_take]
    rw [e1]
    obtain ⟨lab, eLb⟩ : ∃ lab, lab = ws.take (1 + n) := ⟨_, rfl⟩
    rw [← eLb]
    have hn8 : 1 + n ≤ 8 := by omega
    have labl : lab.length = 1 + n := by rw [eLb, List.length_take]; omega
    have labok : ∀ x ∈ lab, WordOk x := fun x hx => wok x (List.mem_of_mem_take (by rw [← eLb]; exact hx))
    have labnd : lab.Nodup := by rw [eLb]; exact wnd.sublist (List.take_sublist ..)
    have s3 : Same H2 (upd H2 la (.lst (sV lab))) := Same.new nla
    have k3 := (k1.trans k2).trans (Same.kp (d := d) (L := L) s3)
    have D3 := D2.same s3
    have hwa3 := s3 _ _ (k2.lst D1 waL hwa)
    have laL := D2.neL nla
    -- the parts
    refine fun m nm => ⟨.ref la, rfl, la, rfl, ⟨_, .of (by rw [upd_ne (ne_of_none upd_same nm)]; exact upd_same)⟩, fun pa npa => ?_⟩
    have s4 : Same (upd H2 la (.lst (sV lab))) (upd (upd H2 la (.lst (sV lab))) m (.dK [])) := Same.new nm
    have k4 := k3.trans (Same.kp (d := d) (L := L) s4)
    have D4 := D3.same s4
    have mL := D3.neL nm
    have paL := D4.neL npa
    have hm4 : (upd (upd H2 la (.lst (sV lab))) m (.dK [])) m = some (.dK []) := upd_same
    have hla4 := s4 _ _ (upd_same (H := H2) (a := la) (o := .lst (sV lab)))
    refine lc_it (walk_list (xs := sV lab)) (fun i H5 => ∃ xs ps, H5 pa = some (.lst xs) ∧ Each (PartAt K H5) xs ps ∧ ps.map (·.1) = lab.take i ∧ (∀ p ∈ ps, p.2 ∈ [("hot" : Str), "cold"]) ∧ Dr H5 d L C ∧ Kp d L (upd (upd H2 la (.lst (sV lab))) m (.dK [])) H5)
      ⟨[], [], upd_same, Each.nil, rfl, fun p h => (by cases h), D4.new npa, Kp.new npa⟩ (fun i H5 _ p => ?_) (fun i x H5 H6 hi p y => ?_) (fun H5 p => ?_)
    · obtain ⟨_, _, _, _, _, _, _, kp⟩ := p
      exact .of (kp.lst D4 laL.1 hla4)
    · obtain ⟨xs, ps, hpa, he, hps, hk, D5, kp⟩ := p
      obtain ⟨rfl, hx⟩ := y
      have hi2 : i < lab.length := by simpa [sV] using hi
      have hx2 : (sV lab)[i]? = some (.str lab[i]) := by simp [sV, hi2]
      obtain rfl : x = .str lab[i] := Option.some.inj (hx.symm.trans hx2)
      refine ⟨rfl, .str lab[i], rfl, .ref d, rfl, by show 3 ≤ sizeLine; decide, fun o no => ?_⟩
      have s6 : Same H6 (upd H6 o (.lst (sV ["hot", "hot", "cold"]))) := Same.new no
      refine ⟨d, L, C, .ref o, rfl, D5.same s6, .inl ⟨o, sV ["hot", "hot", "cold"], rfl, (D5.neL no).1, .inl (.of upd_same), by show 0 < 3; decide, by show 3 < 1000; decide, fun H7 z D7 kp7 hz => ⟨by show 2 ≤ sizeLine; decide, fun t nt => ?_⟩⟩⟩
      obtain ⟨kd, hkd, rfl⟩ := List.mem_map.mp hz
      have s8 : Same H7 (upd H7 t (.tup [.str lab[i], .str kd])) := Same.new nt
      have kp6 := (Same.kp (d := d) (L := L) s6).trans kp7
      have hpa7 := kp6.lst D5 paL.1 hpa
      have hpa8 := s8 _ _ hpa7
      have xl : xs.length ≤ 8 := by
        have := congrArg List.length hps
        rw [List.length_map, List.length_take] at this
        have := he.1
        omega
      have kt8 : KT K H6 (upd H7 t (.tup [.str lab[i], .str kd])) := (kp6.kt D5).trans (Same.kt s8)
      have ntpa : t ≠ pa := (ne_of_none hpa7 nt).symm
      have ktD : KT K (upd H7 t (.tup [.str lab[i], .str kd])) (upd (upd H7 t (.tup [.str lab[i], .str kd])) pa (.lst (xs ++ [.ref t]))) := fun a l h => by
        rcases h with (h2 | ⟨o, h2⟩) | h2
        · exact .inl (.inl (by rw [upd_ne (ne_of h2 hpa8 (by intro z; cases z))]; exact h2))
        · exact .inl (.inr ⟨o, by rw [upd_ne (ne_of h2 hpa8 (by intro z; cases z))]; exact h2⟩)
        · exact .inr h2
      refine ⟨xs, hpa8, by rw [sizeLine_eq]; omega, xs ++ [.ref t], ps ++ [(lab[i], kd)], upd_same, ?_, ?_, ?_, (D7.same s8).lst hpa8 paL.1 paL.2.1 _, ((kp.trans kp6).trans (Same.kp s8)).at npa⟩
      · exact Each.snoc (he.imp fun _ _ r => PartAt.kt (kt8.trans ktD) r) ⟨t, rfl, ktD _ _ (.of upd_same)⟩
      · rw [List.map_append, hps, List.take_add_one, List.getElem?_eq_getElem hi2]
        rfl
      · intro p hp
        rcases List.mem_append.mp hp with h | h
        · exact hk p h
        · rw [List.mem_singleton.mp h]
          simp only [List.mem_cons, List.not_mem_nil, or_false] at hkd ⊢
          rcases hkd with h | h | h
          · exact .inl h
          · exact .inl h
          · exact .inr h
    obtain ⟨xs, ps, hpa, he, hps, hk, D5, kp5⟩ := p
    rw [List.take_of_length_le (by simp [sV])] at hps
    -- the display
    refine ⟨Nat.zero_le _, fun ca nca => ⟨Nat.zero_le _, fun ga nga => ?_⟩⟩
    have caL := D5.neL nca
    have s6 : Same H5 (upd H5 ca (.lst [])) := Same.new nca
    have gaL := (D5.same s6).neL nga
    have s7 := s6.trans (Same.new (o := .lst []) nga)
    have hm5 := kp5 _ _ hm4 mL.2.2 mL.1
    have hla5 := kp5.lst D4 laL.1 hla4
    have hwa5 := kp5.lst D4 waL (s4 _ _ hwa3)
    have k5 := k4.trans kp5
    refine ⟨s7 _ _ hm5, [(.inr "parts", .ref pa), (.inr "causes", .ref ca), (.inr "gates", .ref ga)], rfl, by show 3 ≤ 15; decide, ?_⟩
    have em : mergeK [] [((.inr "parts" : Key), V.ref pa), (.inr "causes", .ref ca), (.inr "gates", .ref ga)] = mkv pa ca ga := by with_unfolding_all rfl
    rw [em]
    have nm0 : H m = none := k3.free nm mL.2.2 mL.1
    have nca0 : H ca = none := k5.free nca caL.2.2 caL.1
    have nga0 : H ga = none := k5.free (s6.free nga) gaL.2.2 gaL.1
    have hgc : ga ≠ ca := (ne_of_none (upd_same (H := H5) (a := ca) (o := .lst [])) nga).symm
    have N : PStat d L C H wa la m pa ca ga := ⟨mL.2.2, mL.1, paL.1, caL.1, gaL.1, laL.1, waL, caL.2.1, gaL.2.1, (ne_of_none (s6 _ _ hpa) nga).symm, hgc, (ne_of_none (s6 _ _ hla5) nga).symm, (ne_of_none (s6 _ _ hwa5) nga).symm, (ne_of_none hpa nca).symm, (ne_of_none hla5 nca).symm, (ne_of_none hwa5 nca).symm, nca0, nga0, nm0⟩
    obtain ⟨H8, e8⟩ : ∃ H8, H8 = upd (upd (upd H5 ca (.lst [])) ga (.lst [])) m (.dK (mkv pa ca ga)) := ⟨_, rfl⟩
    have hm7 := s7 _ _ hm5
    have ktm : KT K (upd (upd H5 ca (.lst [])) ga (.lst [])) H8 := fun b xs hb => by
      rw [e8]
      rcases hb with (h2 | ⟨o, h2⟩) | h2
      · exact .inl (.inl (by rw [upd_ne (ne_of h2 hm7 (by intro z; cases z))]; exact h2))
      · exact .inl (.inr ⟨o, by rw [upd_ne (ne_of h2 hm7 (by intro z; cases z))]; exact h2⟩)
      · exact .inr h2
    have lm : ∀ b l, (upd (upd H5 ca (.lst [])) ga (.lst [])) b = some (.lst l) → H8 b = some (.lst l) := fun b l h => by
      rw [e8, upd_ne (ne_of h hm7 (by intro z; cases z))]
      exact h
    have D8 : Dr H8 d L C := by
      obtain ⟨ls, cs, r, t, mm, D7⟩ := D5.same s7
      rw [e8]
      exact ⟨ls, cs, r, t, mm, { D7 with hd := by rw [upd_ne mL.2.2.symm]; exact D7.hd, hL := by rw [upd_ne mL.1.symm]; exact D7.hL, hC := by rw [upd_ne mL.2.1.symm]; exact D7.hC }⟩
    have S8 : PSt K d L C H wa la m pa ca ga ws lab (mkv pa ca ga) xs ps [] [] [] [] H8 :=
      ⟨D8, by rw [e8]; exact (k5.trans (Same.kp s7)).at nm0, by rw [e8]; exact upd_same, lm _ _ (s7 _ _ hpa), he.imp fun _ _ r => PartAt.kt ((Same.kt s7).trans ktm) r, lm _ _ (by rw [upd_ne hgc.symm, upd_same]), Each.nil, lm _ _ upd_same, Each.nil, lm _ _ (s7 _ _ hla5), lm _ _ (s7 _ _ hwa5)⟩
    rw [← e8]
    -- the gates
    refine ⟨.ref d, rfl, .int mb, rfl, d, L, C, mb, rfl, S8.D, by omega, by omega, fun H9 t D9 k9 t0 t1 => ⟨t, rfl, by omega, by omega, ?_⟩⟩
    have S9 := S8.next N k9 D9
    obtain ⟨t, rfl⟩ : ∃ j : Nat, t = (j : Int) := ⟨t.toNat, by omega⟩
    have wl' : ws.length = 16 := wl
    refine for_it (walk_range (lo := 0) (n := ((t : Int)).toNat)) (fun i σ H10 => ∃ y7 y8 y9 y10 y11 ys gs, σ = [some (.ref d), some (.int ma), some (.int mb), some (.int mc), some (.ref wa), some (.ref la), some (.ref m), y7, y8, y9, y10, y11] ∧ PSt K d L C H wa la m pa ca ga ws lab (mkv pa ca ga) xs ps [] [] ys gs H10 ∧ gs.map G.name = (ws.drop 8).take i ∧ GP lab gs)
      ⟨_, _, _, _, _, [], [], rfl, S9, rfl, GP.nil⟩ (fun _ _ _ _ _ => trivial) (fun i x σ H10 H11 hi p y => ?_) (fun σ H10 p => ?_)
    · obtain ⟨y7, y8, y9, y10, y11, ys, gs, rfl, S, hnm, hgp⟩ := p
      obtain ⟨rfl, rfl⟩ := y
      have hi6 : i < 7 := by omega
      have e0 : (8 : Int) + (0 + (i : Int)) = ((8 + i : Nat) : Int) := by omega
      have hw : (sV ws)[8 + i]? = some (.str (ws[8 + i]'(by omega))) := by simp [sV, show 8 + i < ws.length by omega]
      have gl : gs.length = i := by
        have := congrArg List.length hnm
        rw [List.length_map, List.length_take, List.length_drop] at this
        omega
      refine ⟨.ref m, rfl, m, .ref ga, rfl, gK S.hm mk_g, .inl ⟨rfl, _, .of S.hga⟩, .ref d, rfl, .ref wa, rfl, .int (0 + (i : Int)), rfl, 8, 0 + (i : Int), rfl, rfl, wa, _, _, _, rfl, rfl, .of S.hwa, by rw [e0]; exact atI_nat hw, .ref la, rfl, .ref la, rfl, .ref m, rfl, m, .ref ga, rfl, gK S.hm mk_g, ga, rfl, ⟨_, .of S.hga⟩, fun G0 nG => ?_⟩
      refine lc_it (walk_list (xs := ys)) (LP H11 G0 fun j => sV ((gs.take j).map G.name)) (LP.zero nG rfl) (fun _ _ _ p => p.sm.seq (.of S.hga)) (fun j x H12 H13 hj p y => ?_) (fun H12 p => ?_)
      · obtain ⟨rfl, hx⟩ := y
        obtain ⟨g, hg, r⟩ := S.heg.2 j x hx
        obtain ⟨tt, rest, rfl, ht, _⟩ := (GateAt.kt (Same.kt p.sm) r).cut
        refine ⟨rfl, .ref tt, rfl, tt, _, 0, .str g.name, rfl, rfl, .inr ht, at0, ?_⟩
        refine p.put nG (Same.refl _) ?_ (by rw [sizeLine_eq]; simp [sV]; omega)
        show sV _ = sV _ ++ [_]
        rw [List.take_add_one, hg]
        simp [sV]
      have hG : H12 G0 = some (.lst (sV (gs.map G.name))) := by rw [p.at_, S.heg.1, List.take_length]
      have S12 := S.same N p.sm
      refine ⟨la, G0, _, _, rfl, rfl, S12.hla, hG, by rw [sizeLine_eq]; simp [sV]; omega, fun K0 nK => ?_⟩
      have s13 : Same H12 (upd H12 K0 (.lst (sV lab ++ sV (gs.map G.name)))) := Same.new nK
      have S13 := S12.same N s13
      have eK : sV lab ++ sV (gs.map G.name) = sV (lab ++ gs.map G.name) := by simp [sV]
      have knd : (lab ++ gs.map G.name).Nodup := by rw [eLb, hnm]; exact words_nodup wnd hn8
      have kok : ∀ x ∈ lab ++ gs.map G.name, WordOk x := fun x hx => by
        rcases List.mem_append.mp hx with h | h
        · exact labok x h
        · rw [hnm] at h
          exact wok x (List.mem_of_mem_drop (List.mem_of_mem_take h))
      refine ⟨d, L, C, _, la, lab, K0, lab ++ gs.map G.name, rfl, S13.D, laL.1, .inl (.of S13.hla), labnd, by omega, by omega, fun x hx => (labok x hx).1.str, (S12.D.neL nK).1, .inl (.of (by rw [upd_same, eK])), knd, by rw [List.length_append]; omega, by rw [List.length_append, List.length_map]; omega, fun x hx => (kok x hx).1.str, fun H14 v g D14 k14 hv hgn hgi => ?_⟩
      have S14 := S13.next N k14 D14
      refine ⟨ga, ys, v, rfl, rfl, S14.hga, by have := S14.heg.1; rw [sizeLine_eq]; omega, ?_⟩
      have nw : NameOk (ws[8 + i]'(by omega)) := (wok _ (List.getElem_mem ..)).1
      have newn : ¬ (ws[8 + i]'(by omega)) ∈ lab ++ gs.map G.name := by rw [eLb, hnm]; exact word_new wnd wl' hn8 (Nat.le_refl i) (by omega)
      refine ⟨_, _, _, _, _, ys ++ [v], gs ++ [g], rfl, S14.gate N (Each.snoc S14.heg hv), ?_, hgp.snoc ⟨by rw [hgn]; exact nw, by rw [hgn]; exact newn, hgi⟩⟩
      rw [List.map_append, hnm, List.take_add_one]
      have e : (ws.drop 8)[i]? = some (ws[8 + i]'(by omega)) := by rw [List.getElem?_drop, List.getElem?_eq_getElem]
      rw [e]
      simp [hgn]
    obtain ⟨y7, y8, y9, y10, y11, ys, gs, rfl, S, hnm, hgp⟩ := p
    have et : ((t : Int)).toNat = t := by omega
    rw [et] at hnm
    have gl : gs.length = t := by
      have := congrArg List.length hnm
      rw [List.length_map, List.length_take, List.length_drop] at this
      omega
    have knd : (lab ++ gs.map G.name).Nodup := by rw [eLb, hnm]; exact words_nodup wnd hn8
    have kok : ∀ x ∈ lab ++ gs.map G.name, WordOk x := fun x hx => by
      rcases List.mem_append.mp hx with h | h
      · exact labok x h
      · rw [hnm] at h
        exact wok x (List.mem_of_mem_drop (List.mem_of_mem_take h))
    have klen : (lab ++ gs.map G.name).length ≤ 15 := by rw [List.length_append, List.length_map]; omega
    have klo : 1 ≤ (lab ++ gs.map G.name).length := by rw [List.length_append]; omega
    -- known
    refine ⟨.ref la, rfl, .ref m, rfl, m, .ref ga, rfl, gK S.hm mk_g, ga, rfl, ⟨_, .of S.hga⟩, fun G0 nG => ?_⟩
    refine lc_it (walk_list (xs := ys)) (LP H10 G0 fun j => sV ((gs.take j).map G.name)) (LP.zero nG rfl) (fun _ _ _ p => p.sm.seq (.of S.hga)) (fun j x H12 H13 hj p y => ?_) (fun H12 p => ?_)
    · obtain ⟨rfl, hx⟩ := y
      obtain ⟨g, hg, r⟩ := S.heg.2 j x hx
      obtain ⟨tt, rest, rfl, ht, _⟩ := (GateAt.kt (Same.kt p.sm) r).cut
      refine ⟨rfl, .ref tt, rfl, tt, _, 0, .str g.name, rfl, rfl, .inr ht, at0, ?_⟩
      refine p.put nG (Same.refl _) ?_ (by rw [sizeLine_eq]; simp [sV]; omega)
      show sV _ = sV _ ++ [_]
      rw [List.take_add_one, hg]
      simp [sV]
    have hG : H12 G0 = some (.lst (sV (gs.map G.name))) := by rw [p.at_, S.heg.1, List.take_length]
    have S12 := S.same N p.sm
    refine ⟨la, G0, _, _, rfl, rfl, S12.hla, hG, by rw [sizeLine_eq]; simp [sV]; omega, fun kn nK => ?_⟩
    have s13 : Same H12 (upd H12 kn (.lst (sV lab ++ sV (gs.map G.name)))) := Same.new nK
    have S13 := S12.same N s13
    have eK : sV lab ++ sV (gs.map G.name) = sV (lab ++ gs.map G.name) := by simp [sV]
    have knL := S12.D.neL nK
    have hkn : (upd H12 kn (.lst (sV lab ++ sV (gs.map G.name)))) kn = some (.lst (sV (lab ++ gs.map G.name))) := by rw [upd_same, eK]
    have kng : kn ≠ ga := (ne_of_none S12.hga nK).symm
    have knc : kn ≠ ca := (ne_of_none S12.hca nK).symm
    -- inputs
    refine ⟨.ref d, rfl, .ref kn, rfl, d, L, C, kn, 4, lab ++ gs.map G.name, rfl, S13.D, knL.1, .inl (.of hkn), knd, klo, by omega, fun x hx => (kok x hx).1.str, by decide, by decide, fun H14 ip il D14 k14 hip chi hil => ?_⟩
    have S14 := S13.next N k14 D14
    have hkn14 := k14.lst S13.D knL.1 hkn
    have il1 : 1 ≤ il.length := by
      cases il with
      | nil => exact absurd rfl chi.ne
      | cons _ _ => simp
    have hw15 : (sV ws)[15]? = some (.str (ws[8 + 7]'(by omega))) := by simp [sV, show 15 < ws.length by omega]
    obtain ⟨tp, etp⟩ : ∃ tp, tp = ws[8 + 7]'(by omega) := ⟨_, rfl⟩
    rw [← etp] at hw15
    have tpok : WordOk tp := by rw [etp]; exact wok _ (List.getElem_mem ..)
    have tpnew : ¬ tp ∈ lab ++ gs.map G.name := by rw [etp, eLb, hnm]; exact word_new wnd wl' hn8 (by omega) (by omega)
    -- the top gate
    refine ⟨.ref m, rfl, m, .ref ga, rfl, gK S14.hm mk_g, .inl ⟨rfl, _, .of S14.hga⟩, .ref wa, rfl, wa, _, 15, .str tp, rfl, rfl, .of S14.hwa, atI_nat (j := 15) hw15, .ref d, rfl, .ref ip, rfl, ip, _, rfl, .inr hip, d, L, C, _, rfl, S14.D, by simp [sV]; omega, by simp [sV]; omega, fun H15 k D15 k15 h0 h1 => ⟨1, k, rfl, rfl, .ref ip, rfl, by show 4 ≤ sizeLine; decide, fun tt nt => ?_⟩⟩
    have hk1 : k < (il.length : Int) := by simpa [sV] using h1
    have S15 := S14.next N k15 D15
    have s16 : Same H15 (upd H15 tt (.tup [.str tp, .str "least", .int (1 + k), .ref ip])) := Same.new nt
    have S16 := S15.same N s16
    have hkn16 := s16 _ _ (k15.lst S14.D knL.1 hkn14)
    refine ⟨ga, ys, .ref tt, rfl, rfl, S16.hga, by have := S16.heg.1; rw [sizeLine_eq]; omega, ?_⟩
    have gtop : GateAt K (upd H15 tt (.tup [.str tp, .str "least", .int (1 + k), .ref ip])) (.ref tt) (.least tp (1 + k) il) := ⟨tt, ip, rfl, .of upd_same, Same.sqt s16 (k15.kt S14.D _ _ hip)⟩
    have S17 := S16.gate N (Each.snoc S16.heg gtop)
    have gp17 : GP lab (gs ++ [.least tp (1 + k) il]) := hgp.snoc ⟨tpok.1, tpnew, chi, by omega, by omega⟩
    have hkn17 : (upd (upd H15 tt (.tup [.str tp, .str "least", .int (1 + k), .ref ip])) ga (.lst (ys ++ [.ref tt]))) kn = some (.lst (sV (lab ++ gs.map G.name))) := by rw [upd_ne kng]; exact hkn16
    -- the causes
    refine ⟨.ref d, rfl, .int mc, rfl, mc, 1, rfl, rfl, d, L, C, (mc : Int) + 1, rfl, S17.D, by omega, by omega, fun H18 t2 D18 k18 u0 u1 => ⟨t2, rfl, by omega, by omega, ?_⟩⟩
    have S18 := S17.next N k18 D18
    have hkn18 := k18.lst S17.D knL.1 hkn17
    refine for_it (walk_range (lo := 0) (n := t2.toNat)) (fun i σ H19 => ∃ y7 y10 y11 zs cs, σ = [some (.ref d), some (.int ma), some (.int mb), some (.int mc), some (.ref wa), some (.ref la), some (.ref m), y7, some (.ref kn), some (.ref ip), y10, y11] ∧ PSt K d L C H wa la m pa ca ga ws lab (mkv pa ca ga) xs ps zs cs (ys ++ [.ref tt]) (gs ++ [.least tp (1 + k) il]) H19 ∧ H19 kn = some (.lst (sV (lab ++ gs.map G.name))) ∧ cs.length = i ∧ ∀ c ∈ cs, CauseOk lab (lab ++ gs.map G.name) c)
      ⟨_, _, _, [], [], rfl, S18, hkn18, rfl, fun c h => (by cases h)⟩ (fun _ _ _ _ _ => trivial) (fun i x σ H19 H20 hi p y => ?_) (fun σ H19 p => ?_)
    · obtain ⟨y7, y10, y11, zs, cs, rfl, S, hkn, hcl, hcok⟩ := p
      obtain ⟨rfl, rfl⟩ := y
      refine ⟨.ref m, rfl, m, .ref ca, rfl, gK S.hm mk_c, .inl ⟨rfl, _, .of S.hca⟩, .ref d, rfl, .ref kn, rfl, d, L, C, .ref kn, rfl, S.D, .inl ⟨kn, _, rfl, knL.1,   .inl (.of hkn), by have := klo; simp [sV] at this ⊢; omega, by have := klen; simp [sV] at this ⊢; omega, fun H21 x D21 k21 hx => ?_⟩⟩
      obtain ⟨tr, htr, rfl⟩ := List.mem_map.mp hx
      have S21 := S.next N k21 D21
      refine ⟨.ref d, rfl, .ref la, rfl, d, L, C, la, 3, lab, rfl, S21.D, laL.1, .inl (.of S21.hla), labnd, by omega, by omega, fun x hx => (labok x hx).1.str, by decide, by decide, fun H22 cp cl D22 k22 hcp chc _ => ⟨by show 2 ≤ sizeLine; decide, fun t3 nt3 => ?_⟩⟩
      have S22 := S21.next N k22 D22
      have s23 : Same H22 (upd H22 t3 (.tup [.str tr, .ref cp])) := Same.new nt3
      have S23 := S22.same N s23
      have hkn23 := s23 _ _ (k22.lst S21.D knL.1 (k21.lst S.D knL.1 hkn))
      refine ⟨ca, zs, .ref t3, rfl, rfl, S23.hca, by have := S23.hec.1; rw [sizeLine_eq]; omega, ?_⟩
      refine ⟨_, _, _, zs ++ [.ref t3], cs ++ [(tr, cl)], rfl, S23.cause N (Each.snoc S23.hec ⟨t3, cp, rfl, .of upd_same, Same.sqt s23 hcp⟩), by rw [upd_ne knc]; exact hkn23, by simp [hcl], fun c hc => ?_⟩
      rcases List.mem_append.mp hc with h | h
      · exact hcok c h
      · rw [List.mem_singleton.mp h]
        exact ⟨htr, chc⟩
    obtain ⟨y7, y10, y11, zs, cs, rfl, S, hkn, hcl, hcok⟩ := p
    have hpsl : ps.map (·.1) = lab := hps
    have psl : ps.length = 1 + n := by
      have := congrArg List.length hpsl
      rw [List.length_map] at this
      omega
    obtain ⟨gf, egf⟩ : ∃ gf, gf = gs ++ [G.least tp (1 + k) il] := ⟨_, rfl⟩
    rw [← egf] at S gp17
    have gfl : gf.length = t + 1 := by rw [egf, List.length_append, gl]; rfl
    have gfn : gf.map G.name = gs.map G.name ++ [tp] := by rw [egf, List.map_append]; rfl
    have psok : PartsOk ps := ⟨by omega, by omega, fun p hp => ⟨(labok p.1 (by rw [← hpsl]; exact List.mem_map.mpr ⟨p, hp, rfl⟩)).1, hk p hp⟩, by rw [hpsl]; exact labnd⟩
    have csok : ∀ names, (∀ x ∈ lab ++ gs.map G.name, x ∈ names) → CausesOk lab names cs := fun names hn => ⟨by omega, fun c hc => ⟨hn _ (hcok c hc).trig, (hcok c hc).ch⟩⟩
    have gnd : (gf.map G.name).Nodup := by
      rw [gfn]
      refine nd_snoc (knd.sublist (List.sublist_append_right ..)) fun h => tpnew (List.mem_append_right _ h)
    have gp17' : GP (ps.map (·.1)) gf := by rw [hpsl]; exact gp17
    have full := gp17'.full (fun x hx => (labok x (by rw [← hpsl]; exact hx)).1)
    have feq : seat0 gf = firstU gf := first_eq gnd full
    have tok : TellOk ps (firstU gf) gf := tellOk_of gp17' (by omega) (by omega) (firstU_spare gf)
    have pool := gp17'.pool
    rw [hpsl] at pool
    -- m['top']
    have hmt : (upd H19 m (.dK (mkv4 pa ca ga (.str tp)))) m = some (.dK (mkv4 pa ca ga (.str tp))) := upd_same
    have lm4 : ∀ b l, H19 b = some (.lst l) → (upd H19 m (.dK (mkv4 pa ca ga (.str tp)))) b = some (.lst l) := fun b l h => by rw [upd_ne (ne_of h S.hm (by intro z; cases z))]; exact h
    have ktm4 : KT K H19 (upd H19 m (.dK (mkv4 pa ca ga (.str tp)))) := fun b xs hb => by
      rcases hb with (h2 | ⟨o, h2⟩) | h2
      · exact .inl (.inl (by rw [upd_ne (ne_of h2 S.hm (by intro z; cases z))]; exact h2))
      · exact .inl (.inr ⟨o, by rw [upd_ne (ne_of h2 S.hm (by intro z; cases z))]; exact h2⟩)
      · exact .inr h2
    have D20 : Dr (upd H19 m (.dK (mkv4 pa ca ga (.str tp)))) d L C := by
      obtain ⟨ls, cs, r, t, mm, D7⟩ := S.D
      exact ⟨ls, cs, r, t, mm, { D7 with hd := by rw [upd_ne mL.2.2.symm]; exact D7.hd, hL := by rw [upd_ne mL.1.symm]; exact D7.hL, hC := by rw [upd_ne mL.2.1.symm]; exact D7.hC }⟩
    have S20 : PSt K d L C H wa la m pa ca ga ws lab (mkv4 pa ca ga (.str tp)) xs ps zs cs (ys ++ [.ref tt]) gf (upd H19 m (.dK (mkv4 pa ca ga (.str tp)))) :=
      ⟨D20, S.kp.at nm0, hmt, lm4 _ _ S.hpa, S.hea.imp fun _ _ r => PartAt.kt ktm4 r, lm4 _ _ S.hca, S.hec.imp fun _ _ r => CauseAt.kt ktm4 r, lm4 _ _ S.hga, S.heg.imp fun _ _ r => GateAt.kt ktm4 r, lm4 _ _ S.hla, lm4 _ _ S.hwa⟩
    refine ⟨.ref wa, rfl, wa, _, 15, .str tp, rfl, rfl, .of S.hwa, atI_nat (j := 15) hw15, .ref m, rfl, m, _, rfl, DPut.k (k := .inr "top") S.hm (small1000 (by show 3 ≤ 1000; decide)), ?_⟩
    rw [mk_put]
    -- is the top true at the beginning?
    refine ⟨.ref wa, rfl, wa, _, 15, .str tp, rfl, rfl, .of S20.hwa, atI_nat (j := 15) hw15, .ref m, rfl, m, _, pa, xs, ps, ga, ys ++ [.ref tt], gf, rfl, S20.hm, mk4_p, mk4_g, .inl (.of S20.hpa), S20.hea, .inl (.of S20.hga), S20.heg, by rw [feq]; exact tok, fun n qs h => by have := pool n qs h; omega, fun H21 ww g u sn s21 _ _ _ _ W21 => ?_⟩
    have S21 := S20.same N s21
    have gS : DGet H21 sn (.str tp) ((getA (since0 ps gf) tp).map V.int) := by
      have q := DGet.k (k := .inr tp) W21.hs
      rw [valV_dS] at q
      exact q
    refine ⟨ww, .ref sn, rfl, W21.gS, sn, _, rfl, gS, _, rfl, ?_⟩
    have isS : ((getA (since0 ps gf) tp).map V.int).isSome = true ↔ lookT (tellM noBefore [] (firstU gf) ps gf) tp = true := by
      rw [Option.isSome_map]
      have e1 : (getA (since0 ps gf) tp).isSome = true ↔ KeyIn (since0 ps gf) tp := by
        constructor
        · intro h
          obtain ⟨z, hz⟩ := Option.isSome_iff_exists.mp h
          exact getA_any hz
        · intro h
          obtain ⟨z, hz⟩ := getA_of_any h
          rw [hz]
          rfl
      rw [e1]
      unfold since0
      rw [since_iff, lawTr_eq, feq]
    have wordsOk : ∀ gs' : List G, gs'.map G.name = gf.map G.name → ∀ x ∈ ps.map (·.1) ++ gs'.map G.name, WordOk x := fun gs' e x hx => by
      rw [e, hpsl, gfn] at hx
      rcases List.mem_append.mp hx with h | h
      · exact labok x h
      · rcases List.mem_append.mp h with h | h
        · exact kok x (List.mem_append_right _ h)
        · rw [List.mem_singleton.mp h]; exact tpok
    have subn : ∀ x ∈ lab ++ gs.map G.name, x ∈ lab ++ gf.map G.name := fun x hx => by
      rw [gfn]
      rcases List.mem_append.mp hx with h | h
      · exact List.mem_append_left _ h
      · exact List.mem_append_right _ (List.mem_append_left _ h)
    refine ite2 (fun e => ?_) (fun e => ?_)
    · -- all parts instead
      have labne : lab ≠ [] := fun e => by rw [e] at labl; simp at labl; omega
      refine ⟨.ref wa, rfl, wa, _, 15, .str tp, rfl, rfl, .of S21.hwa, atI_nat (j := 15) hw15, .ref la, rfl, la, _, rfl, .inl (.of S21.hla), fun tl0 H22 s22 htl => ⟨by show 3 ≤ sizeLine; decide, fun t5 nt5 => ?_⟩⟩
      have S22 := S21.same N s22
      have s23 : Same H22 (upd H22 t5 (.tup [.str tp, .str "all", .ref tl0])) := Same.new nt5
      have S23 := S22.same N s23
      have hz : ixN (ys ++ [V.ref tt]).length (-1) = some ys.length := by
        unfold ixN
        rw [if_neg (by decide), if_pos (by rw [List.length_append]; simp; omega)]
        rw [List.length_append]
        simp
        omega
      refine ⟨.ref m, rfl, m, .ref ga, rfl, gK S23.hm mk4_g, 1, rfl, ga, _, -1, ys.length, rfl, rfl, S23.hga, hz, ?_⟩
      have eset : (ys ++ [V.ref tt]).set ys.length (.ref t5) = ys ++ [.ref t5] := by simp
      rw [eset]
      obtain ⟨gf2, egf2⟩ : ∃ gf2, gf2 = gs ++ [G.all tp lab] := ⟨_, rfl⟩
      have hall : GateAt K (upd H22 t5 (.tup [.str tp, .str "all", .ref tl0])) (.ref t5) (.all tp lab) := ⟨t5, tl0, rfl, .of upd_same, Same.sqt s23 htl⟩
      have heg23 : Each (GateAt K (upd H22 t5 (.tup [.str tp, .str "all", .ref tl0]))) (ys ++ [.ref t5]) gf2 := by
        have h := S23.heg
        rw [egf] at h
        rw [egf2]
        exact Each.snoc h.init hall
      have S24 := S23.gate N heg23
      have gp2 : GP lab gf2 := by rw [egf2]; exact hgp.snoc ⟨tpok.1, tpnew, labne, labnd, fun x hx => List.mem_append_left _ hx, by omega⟩
      have gfn2 : gf2.map G.name = gf.map G.name := by rw [egf2, gfn, List.map_append]; rfl
      have gfl2 : gf2.length = t + 1 := by rw [egf2, List.length_append, gl]; rfl
      have gp2' : GP (ps.map (·.1)) gf2 := by rw [hpsl]; exact gp2
      have tok2 : TellOk ps (firstU gf2) gf2 := tellOk_of gp2' (by omega) (by omega) (firstU_spare gf2)
      have pool2 := gp2'.pool
      rw [hpsl] at pool2
      have no : lookT (tellM noBefore [] (firstU gf2) ps gf2) tp = false := by
        have e2 : gf2 = gs ++ [G.all tp (ps.map (·.1))] := by rw [egf2, hpsl]
        rw [e2]
        refine all_false (fun x hx h => ?_) (fun e => by rw [e] at psl; simp at psl; omega)
        rw [hpsl] at hx
        exact (List.nodup_append.mp knd).2.2 x hx x h rfl
      refine ⟨.ref m, rfl, q _ m ps cs gf2 tp S24.D S24.kp nm0 ⟨pa, ca, ga, xs, zs, ys ++ [.ref t5], S24.hm, S24.hpa, S24.hea, S24.hca, S24.hec, S24.hga, S24.heg, N.md, N.paL, N.caL, N.gaL⟩ ⟨psok, ⟨by omega, by omega, gp2'⟩, ?_, ⟨by rw [gfn2, gfn]; simp, tok2, fun n qs h => by have := pool2 n qs h; omega, no⟩⟩ (by omega) (wordsOk gf2 gfn2)⟩
      rw [hpsl, gfn2]
      exact csok _ subn
    · have no : lookT (tellM noBefore [] (firstU gf) ps gf) tp = false := by
        cases h : lookT (tellM noBefore [] (firstU gf) ps gf) tp with
        | false => rfl
        | true => exact absurd (isS.mpr h) e
      refine ⟨.ref m, rfl, q H21 m ps cs gf tp S21.D S21.kp nm0 ⟨pa, ca, ga, xs, zs, ys ++ [.ref tt], S21.hm, S21.hpa, S21.hea, S21.hca, S21.hec, S21.hga, S21.heg, N.md, N.paL, N.caL, N.gaL⟩ ⟨psok, ⟨by omega, by omega, gp17'⟩, ?_, ⟨by rw [gfn]; simp, tok, fun n qs h => by have := pool n qs h; omega, no⟩⟩ (by omega) (wordsOk gf rfl)⟩
      rw [hpsl]
      exact csok _ subn
end
end Kf

set_option Elab.async false
set_option linter.all false
set_option maxRecDepth 100000
set_option maxHeartbeats 2000000
namespace Kf
open PySem PySem.Spec PyProof.Rows L2 LamX NdefX TL
/-- a dict with a plant's four things -/
structure MX (K : PySem.W.Frag) (H : Hp) (m : Addr) (ps : List (Str × Str)) (cs : List (Str × List Str)) (gs : List G) (tp : Str) : Prop where
  ex : ∃ kvs pa ca ga xs zs ys, H m = some (.dK kvs) ∧ valV kvs (.inr "parts") = some (.ref pa) ∧ valV kvs (.inr "causes") = some (.ref ca) ∧ valV kvs (.inr "gates") = some (.ref ga) ∧ valV kvs (.inr "top") = some (.str tp) ∧
    H pa = some (.lst xs) ∧ Each (PartAt K H) xs ps ∧ H ca = some (.lst zs) ∧ Each (CauseAt K H) zs cs ∧ H ga = some (.lst ys) ∧ Each (GateAt K H) ys gs
theorem M4.mx {K : PySem.W.Frag} {d L : Addr} {H : Hp} {m : Addr} {ps : List (Str × Str)} {cs : List (Str × List Str)} {gs : List G} {tp : Str} (h : M4 K d L H m ps cs gs tp) : MX K H m ps cs gs tp := by
  obtain ⟨pa, ca, ga, xs, zs, ys, hm, h1, e1, h2, e2, h3, e3, _⟩ := h.ex
  exact ⟨_, pa, ca, ga, xs, zs, ys, hm, mk4_p, mk4_c, mk4_g, mk4_t, h1, e1, h2, e2, h3, e3⟩
theorem MX.sm {T : List NTab} {K : PySem.W.Frag} {H H' : Hp} {m : Addr} {ps : List (Str × Str)} {cs : List (Str × List Str)} {gs : List G} {tp : Str} (h : MX K H m ps cs gs tp) (s : Sm T H H') : MX K H' m ps cs gs tp := by
  obtain ⟨kvs, pa, ca, ga, xs, zs, ys, hm, v1, v2, v3, v4, h1, e1, h2, e2, h3, e3⟩ := h.ex
  exact ⟨kvs, pa, ca, ga, xs, zs, ys, s.lst hm (by intro _ z; cases z), v1, v2, v3, v4, s.lst h1 (by intro _ z; cases z), e1.imp fun _ _ r => PartAt.kt s.kt r, s.lst h2 (by intro _ z; cases z), e2.imp fun _ _ r => CauseAt.kt s.kt r, s.lst h3 (by intro _ z; cases z), e3.imp fun _ _ r => GateAt.kt s.kt r⟩
/-- the tuple (parts, gates, causes, top) -/
structure PlTup (K : PySem.W.Frag) (H : Hp) (p : Addr) (ps : List (Str × Str)) (gs : List G) (cs : List (Str × List Str)) (tp : Str) : Prop where
  ex : ∃ a b c xs ys zs, SqT K H p [.ref a, .ref b, .ref c, .str tp] ∧ SqT K H a xs ∧ Each (PartAt K H) xs ps ∧ SqT K H b ys ∧ Each (GateAt K H) ys gs ∧ SqT K H c zs ∧ Each (CauseAt K H) zs cs
def plantD (ps : List (Str × Str)) (gs : List G) (cs : List (Str × List Str)) (tp : Str) : PyData := .tuple [partsD ps, gatesD gs, causesD cs, .str tp]
theorem PlTup.dp {K : PySem.W.Frag} {H : Hp} {p : Addr} {ps : List (Str × Str)} {gs : List G} {cs : List (Str × List Str)} {tp : Str} (h : PlTup K H p ps gs cs tp) : Dp K H (.ref p) (plantD ps gs cs tp) := by
  obtain ⟨a, b, c, xs, ys, zs, h0, h1, e1, h2, e2, h3, e3⟩ := h.ex
  exact .tup h0 (.cons (dp_parts h1 e1) (.cons (dp_gates h2 e2) (.cons (dp_causes h3 e3) (.cons (.str _) .nil))))
theorem PlTup.kt {K : PySem.W.Frag} {H H' : Hp} {p : Addr} {ps : List (Str × Str)} {gs : List G} {cs : List (Str × List Str)} {tp : Str} (h : PlTup K H p ps gs cs tp) (k : KT K H H') : PlTup K H' p ps gs cs tp := by
  obtain ⟨a, b, c, xs, ys, zs, h0, h1, e1, h2, e2, h3, e3⟩ := h.ex
  exact ⟨a, b, c, xs, ys, zs, k _ _ h0, k _ _ h1, e1.imp fun _ _ r => PartAt.kt k r, k _ _ h2, e2.imp fun _ _ r => GateAt.kt k r, k _ _ h3, e3.imp fun _ _ r => CauseAt.kt k r⟩
theorem Shapes.plant {ps : List (Str × Str)} {gs : List G} {cs : List (Str × List Str)} {tp : Str} (h : Shapes ps gs cs tp) : ShOk 4 (plantD ps gs cs tp) := sh4 (h.p.up (by decide)) h.g h.c ((sh_str h.t).up (by decide))
theorem eqv_plant {ps : List (Str × Str)} {gs : List G} {cs : List (Str × List Str)} {tp : Str} {ps' : List (Str × Str)} {gs' : List G} {cs' : List (Str × List Str)} {tp' : Str} : PyData.eqv (plantD ps gs cs tp) (plantD ps' gs' cs' tp') = eqPl ps gs cs tp ps' gs' cs' tp' := by
  unfold plantD eqPl
  simp only [PyData.eqv, PyData.eqvAll, Bool.and_true]
section
variable {P : Program} {w : World} {K : PySem.W.Frag} {mg : Str → Option Value} {base : Heap}
/-- a class that is made by its name -/
structure MakC (P : Program) (w : World) (K : PySem.W.Frag) (mg : Str → Option Value) (base : Heap) (k : Nat) (x : Str) (C : Addr) (ps : List Str) (sp : Sp) : Prop where
  ex : ∃ f fd, Mk K C f ∧ mg x = some (.ref C) ∧ Binds K fd ps [] ∧ FnOk P w K mg base CX0 k f fd ps sp
theorem pe_mak {X : Cx} {k j : Nat} {x : Str} {C : Addr} {ps : List Str} {sp : Sp} {p pos : Pos} {e : Expr} {es : List Expr} {t : TA} (M : MakC X.prog X.w X.K X.mg X.base k x C ps sp) (hk : k + 1 ≤ j) (hr : Room j X.A) (hg : Gl X x) (ha : PA X (e :: es) t) (hdb : (x == ("__debug__" : Str)) = false := by decide)
    (he : starEach (e :: es) X.env = (false, eval e X.env) :: starEach es X.env := by rfl) (hpl : (backTo pos (starEach es X.env)).any (·.1) = false := by rfl) : PE X (.Call (.Name x p) (e :: es) [] pos) (tMake C sp [] E0 t) := by
  obtain ⟨f, fd, mk, m, b, F⟩ := M.ex
  exact pe_make mk F (hr.mono hk) hg m b .nil pass0 ha hdb he hpl
def spMade (K : PySem.W.Frag) (C : Addr) (T0 : List NTab) : Sp := fun vs H Q _ => ∃ m ps cs gs tp, vs = [.ref m] ∧ MX K H m ps cs gs tp ∧ PlantOk ps gs cs tp ∧ TabsN T0 H ∧ ∀ H' p, Sm T0 H H' → H p = none → PlObj K C H' p ps gs cs tp → Q (.ref p) H'
theorem ok_law_made {f C : Addr} {fd : FuncData} {T0 : List NTab} (F : L2.Fun K "_law_made" "_law_made" s__law_made f fd) (T : Nm mg) (M : MakC P w K mg base 6 "Plant" C ["self", "parts", "gates", "causes", "top"] (spInit K C T0)) : FnOk P w K mg base CX0 8 f fd ["m"] (spMade K C T0) := by
  refine F.ok sc__law_made (fun vs H Q E h => ?_) (fun cdv A outer s H vs Q E hr h => ?_)
  · obtain ⟨m, ps, cs, gs, tp, rfl, _⟩ := h
    rfl
  · obtain ⟨m, ps, cs, gs, tp, rfl, hM, ok, hT, q⟩ := h
    have hu := hu_of hr
    obtain ⟨kvs, pa, ca, ga, xs, zs, ys, hm, v1, v2, v3, v4, h1, e1, h2, e2, h3, e3⟩ := hM.ex
    refine ⟨_, pss_one (ps_ret (pe_mak M (by decide) hr (by rfl) (pa_cons (pe_dget hu (pv 0) pe_str (fun _ _ => rfl)) (pa_cons (pe_dget hu (pv 0) pe_str (fun _ _ => rfl)) (pa_cons (pe_dget hu (pv 0) pe_str (fun _ _ => rfl)) (pa_cons (pe_dget hu (pv 0) pe_str (fun _ _ => rfl)) pa_nil)))))), ?_⟩
    refine ⟨.ref m, rfl, m, .ref pa, rfl, gK hm v1, .ref m, rfl, m, .ref ga, rfl, gK hm v3, .ref m, rfl, m, .ref ca, rfl, gK hm v2, .ref m, rfl, m, .str tp, rfl, gK hm v4, fun x dx nx ndx nex => ?_⟩
    have s1 : Same H (upd (upd H dx (.own x)) x (.ins C dx [])) := fun b o e => by
      rw [upd_ne (ne_of_none e nx), upd_ne (ne_of_none e ndx)]
      exact e
    refine ⟨x, dx, pa, xs, ps, ga, ys, gs, ca, zs, cs, tp, rfl, upd_same, .inl (.of (s1 _ _ h1)), e1.imp fun _ _ r => PartAt.kt (Same.kt s1) r, .inl (.of (s1 _ _ h3)), e3.imp fun _ _ r => GateAt.kt (Same.kt s1) r, .inl (.of (s1 _ _ h2)), e2.imp fun _ _ r => CauseAt.kt (Same.kt s1) r, ok, hT.ext s1, fun H' pa' ga' ca' sx hx t1 t2 t3 => ⟨rfl, ?_⟩⟩
    have sm : Sm T0 H H' := ⟨fun b o e n => sx.kp b o (s1 _ _ e) n (ne_of_none e nx), fun b e => s1.free (sx.nn b e), fun t => sx.tb (t.ext s1)⟩
    exact q H' x sm nx ⟨dx, pa', ga', ca', xs, ys, zs, hx, t1, e1.imp fun _ _ r => PartAt.kt sm.kt r, t2, e3.imp fun _ _ r => GateAt.kt sm.kt r, t3, e2.imp fun _ _ r => CauseAt.kt sm.kt r⟩
def spTuples (K : PySem.W.Frag) : Sp := fun vs H Q _ => ∃ m ps cs gs tp, vs = [.ref m] ∧ MX K H m ps cs gs tp ∧ ∀ H' p, Same H H' → PlTup K H' p ps gs cs tp → Q (.ref p) H'
theorem ok_law_tuples {f : Addr} {fd : FuncData} {k : Nat} (F : L2.Fun K "_law_tuples" "_law_tuples" s__law_tuples f fd) (T : Nm mg) : FnOk P w K mg base CX0 (k + 1) f fd ["m"] (spTuples K) := by
  refine F.ok sc__law_tuples (fun vs H Q E h => ?_) (fun cdv A outer s H vs Q E hr h => ?_)
  · obtain ⟨m, ps, cs, gs, tp, rfl, _⟩ := h
    rfl
  · obtain ⟨m, ps, cs, gs, tp, rfl, hM, q⟩ := h
    have hu := hu_of hr
    obtain ⟨kvs, pa, ca, ga, xs, zs, ys, hm, v1, v2, v3, v4, h1, e1, h2, e2, h3, e3⟩ := hM.ex
    refine ⟨_, (pss_one (ps_ret (pe_tup (pa_cons (pe_callTy (call_tupQ (K := K) rfl) (by rfl) T.n_tuple (by decide +kernel) (pa_cons (pe_dget hu (pv 0) pe_str (fun _ _ => rfl)) pa_nil)) (pa_cons (pe_callTy (call_tupQ (K := K) rfl) (by rfl) T.n_tuple (by decide +kernel) (pa_cons (pe_dget hu (pv 0) pe_str (fun _ _ => rfl)) pa_nil)) (pa_cons (pe_callTy (call_tupQ (K := K) rfl) (by rfl) T.n_tuple (by decide +kernel) (pa_cons (pe_dget hu (pv 0) pe_str (fun _ _ => rfl)) pa_nil)) (pa_cons (pe_dget hu (pv 0) pe_str (fun _ _ => rfl)) pa_nil))))))), ?_⟩
    refine ⟨.ref m, rfl, m, .ref pa, rfl, gK hm v1, pa, xs, rfl, .inl (.of h1), fun ta H1 s1 ht1 => ?_⟩
    refine ⟨.ref m, rfl, m, .ref ga, rfl, gK (s1 _ _ hm) v3, ga, ys, rfl, .inl (.of (s1 _ _ h3)), fun tb H2 s2 ht2 => ?_⟩
    have s12 := s1.trans s2
    refine ⟨.ref m, rfl, m, .ref ca, rfl, gK (s12 _ _ hm) v2, ca, zs, rfl, .inl (.of (s12 _ _ h2)), fun tc H3 s3 ht3 => ?_⟩
    have s13 := s12.trans s3
    refine ⟨.ref m, rfl, m, .str tp, rfl, gK (s13 _ _ hm) v4, by show 4 ≤ sizeLine; decide, fun p np => ?_⟩
    have s4 : Same H3 (upd H3 p (.tup [.ref ta, .ref tb, .ref tc, .str tp])) := Same.new np
    have s14 := s13.trans s4
    exact q _ p s14 ⟨ta, tb, tc, xs, ys, zs, .of upd_same, Same.sqt (s2.trans (s3.trans s4)) ht1, e1.imp fun _ _ r => PartAt.kt (Same.kt s14) r, Same.sqt (s3.trans s4) ht2, e3.imp fun _ _ r => GateAt.kt (Same.kt s14) r, Same.sqt s4 ht3, e2.imp fun _ _ r => CauseAt.kt (Same.kt s14) r⟩
/-- a property of the class -/
structure PropC (P : Program) (w : World) (K : PySem.W.Frag) (mg : Str → Option Value) (base : Heap) (C : Addr) (x f : Str) : Prop where
  ex : ∃ p g fd, PropOf K C x p g ∧ Binds K fd ["self"] [] ∧ FnOk P w K mg base CX0 1 g fd ["self"] (getSp C f)
theorem pe_propC {X : Cx} {j : Nat} {C : Addr} {x f : Str} {e : Expr} {pos : Pos} {ta : TE} (R : PropC X.prog X.w X.K X.mg X.base C x f) (c : Cls X.K C) (hj : 2 ≤ j) (hr : Room j X.A) (he : PE X e ta) (hab : attributeBase e x X.env (eval e X.env) = eval e X.env) : PE X (.Attribute e x pos) (tProp C (getSp C f) [] E0 ta) := by
  obtain ⟨p, g, fd, hp, b, F⟩ := R.ex
  exact pe_prop he c hp F (hr.mono hj) b .nil (fun _ _ _ _ _ _ _ z => z.elim) hab
def spTold (K : PySem.W.Frag) (C : Addr) : Sp := fun vs H Q _ => ∃ a ps gs cs tp, vs = [.ref a] ∧ PlObj K C H a ps gs cs tp ∧ ∀ H' p, Same H H' → PlTup K H' p ps gs cs tp → Q (.ref p) H'
theorem ok_law_told {f C : Addr} {fd : FuncData} (F : L2.Fun K "_law_told" "_law_told" s__law_told f fd) (T : Nm mg) (L : PlC K mg C) (R1 : PropC P w K mg base C "parts" "_parts") (R2 : PropC P w K mg base C "gates" "_gates") (R3 : PropC P w K mg base C "causes" "_causes") (R4 : PropC P w K mg base C "top" "_top") :
    FnOk P w K mg base CX0 3 f fd ["made"] (spTold K C) := by
  refine F.ok sc__law_told (fun vs H Q E h => ?_) (fun cdv A outer s H vs Q E hr h => ?_)
  · obtain ⟨a, ps, gs, cs, tp, rfl, _⟩ := h
    rfl
  · obtain ⟨a, ps, gs, cs, tp, rfl, ho, q⟩ := h
    obtain ⟨dx, pa, ga, ca, xs, ys, zs, h0, h1, e1, h2, e2, h3, e3⟩ := ho.ex
    refine ⟨_, pss_one (ps_ret (pe_tup (pa_cons (pe_propC R1 L.cl (by decide) hr (pv 0) rfl) (pa_cons (pe_propC R2 L.cl (by decide) hr (pv 0) rfl) (pa_cons (pe_propC R3 L.cl (by decide) hr (pv 0) rfl) (pa_cons (pe_propC R4 L.cl (by decide) hr (pv 0) rfl) pa_nil)))))), ?_⟩
    refine ⟨.ref a, rfl, a, dx, _, rfl, h0, a, dx, _, _, rfl, h0, plF_p, .ref a, rfl, a, dx, _, rfl, h0, a, dx, _, _, rfl, h0, plF_g, .ref a, rfl, a, dx, _, rfl, h0, a, dx, _, _, rfl, h0, plF_c, .ref a, rfl, a, dx, _, rfl, h0, a, dx, _, _, rfl, h0, plF_t, by show 4 ≤ sizeLine; decide, fun p np => ?_⟩
    have s4 : Same H (upd H p (.tup [.ref pa, .ref ga, .ref ca, .str tp])) := Same.new np
    exact q _ p s4 ⟨pa, ga, ca, xs, ys, zs, .of upd_same, Same.sqt s4 h1, e1.imp fun _ _ r => PartAt.kt (Same.kt s4) r, Same.sqt s4 h2, e2.imp fun _ _ r => GateAt.kt (Same.kt s4) r, Same.sqt s4 h3, e3.imp fun _ _ r => CauseAt.kt (Same.kt s4) r⟩
end
end Kf

set_option Elab.async false
set_option linter.all false
set_option maxRecDepth 100000
set_option maxHeartbeats 2000000
namespace Kf
open PySem PySem.Spec PyProof.Rows L2 LamX NdefX TL
/-! ## other plants -/
def qS : Str := "qqqqqq"
def anyQ (p : Str) : G := .any qS [p]
theorem qS_name : NameOk qS := nameOk_of (by decide +kernel)
theorem qS_nq : ¬ NQ qS := by
  unfold NQ
  decide +kernel
theorem ne_qS {x : Str} (h : WordOk x) : x ≠ qS := fun e => qS_nq (e ▸ h.2)
theorem GateIn.mono {p n p' n' : List Str} {g : G} (h : GateIn p n g) (hp : ∀ x ∈ p, x ∈ p') (hn : ∀ x ∈ n, x ∈ n') : GateIn p' n' g := by
  cases g with
  | all n ins => exact ⟨h.ne, h.nd, fun x hx => hn x (h.sub x hx), h.len⟩
  | any n ins => exact ⟨h.ne, h.nd, fun x hx => hn x (h.sub x hx), h.len⟩
  | least n m ins => exact ⟨⟨h.1.ne, h.1.nd, fun x hx => hn x (h.1.sub x hx), h.1.len⟩, h.2⟩
  | before n x y => exact ⟨h.ne, h.nd, fun x hx => hn x (h.sub x hx), h.len⟩
  | spare n ps => exact ⟨h.ne, h.nd, fun x hx => hp x (h.sub x hx), h.len⟩
theorem ChoiceOk.mono {l n n' : List Str} (h : ChoiceOk l n) (hn : ∀ x ∈ n, x ∈ n') : ChoiceOk l n' := ⟨h.ne, h.nd, fun x hx => hn x (h.sub x hx), h.len⟩
theorem CauseOk.mono {p n p' n' : List Str} {c : Str × List Str} (h : CauseOk p n c) (hp : ∀ x ∈ p, x ∈ p') (hn : ∀ x ∈ n, x ∈ n') : CauseOk p' n' c := ⟨hn _ h.trig, h.ch.mono hp⟩
theorem ReadsK.mono {k k' : List Str} {us : Uses} {g : G} (h : ReadsK k us g) (hk : ∀ x ∈ k, x ∈ k') : ReadsK k' us g := by
  cases g with
  | all n ins => exact ⟨fun x hx => hk x (h.1 x hx), h.2⟩
  | any n ins => exact ⟨fun x hx => hk x (h.1 x hx), h.2⟩
  | least n m ins => exact ⟨fun x hx => hk x (h.1 x hx), h.2⟩
  | before n x y => exact ⟨hk x h.1, hk y h.2⟩
  | spare n ps => exact h
theorem all_congr {f g : Str → Bool} (h : ∀ x, f x = g x) (l : List Str) : l.all f = l.all g := by
  rw [show f = g from funext h]
theorem look_congr {us : Uses} : ∀ (gs : List G) {a b : Tr}, (∀ m, lookT a m = lookT b m) → ∀ m, lookT (gs.foldl (tell1 noBefore us) a) m = lookT (gs.foldl (tell1 noBefore us) b) m
  | [], a, b, h, m => h m
  | g :: r, a, b, h, m => by
    rw [List.foldl_cons, List.foldl_cons]
    refine look_congr r (fun m => ?_) m
    have e : lookT a = lookT b := funext h
    unfold tell1
    rw [look_set, look_set, h m]
    have e2 : truth1 noBefore us a g = truth1 noBefore us b g := by
      cases g with
      | before n x y => rfl
      | all n ins => show ins.all (lookT a) = ins.all (lookT b); rw [e]
      | any n ins => show ins.any (lookT a) = ins.any (lookT b); rw [e]
      | least n m ins => show decide (m ≤ ((ins.filter (lookT a)).length : Int)) = decide (m ≤ ((ins.filter (lookT b)).length : Int)); rw [e]
      | spare n ps => rfl
    rw [e2]
theorem PlantOk.parts2 {ps ps' : List (Str × Str)} {gs : List G} {cs : List (Str × List Str)} {tp : Str} (h : PlantOk ps gs cs tp) (ok : PartsOk ps') (e : ∀ x, x ∈ ps.map (·.1) ↔ x ∈ ps'.map (·.1)) : PlantOk ps' gs cs tp := by
  have app : ∀ (l : List Str), ∀ x, x ∈ ps.map (·.1) ++ l ↔ x ∈ ps'.map (·.1) ++ l := fun l x => by rw [List.mem_append, List.mem_append, e x]
  refine ⟨ok, ⟨h.gates.lo, h.gates.hi, fun i g hg => ?_⟩, ⟨h.causes.hi, fun c hc => (h.causes.each c hc).mono (fun x => (e x).mp) fun x => (app _ x).mp⟩, ⟨h.top.mem, ⟨fun i g hg => (h.top.tell.each i g hg).mono fun x => (app _ x).mp, Nat.le_trans ok.hi (by decide), h.top.tell.gl⟩, h.top.pool, ?_⟩⟩
  · have q := h.gates.each i g hg
    exact ⟨q.name, fun z => q.new ((app _ _).mpr z), q.ins.mono (fun x => (e x).mp) fun x => (app _ x).mp⟩
  · rw [← h.top.no]
    exact look_congr gs (fun m => by rw [look_parts, look_parts]) tp
theorem PlantOk.causes2 {ps : List (Str × Str)} {gs : List G} {cs cs' : List (Str × List Str)} {tp : Str} (h : PlantOk ps gs cs tp) (ok : CausesOk (ps.map (·.1)) (ps.map (·.1) ++ gs.map G.name) cs') : PlantOk ps gs cs' tp := ⟨h.parts, h.gates, ok, h.top⟩
theorem PlantOk.rev {ps : List (Str × Str)} {gs : List G} {cs : List (Str × List Str)} {tp : Str} (h : PlantOk ps gs cs tp) : PlantOk ps.reverse gs cs tp :=
  h.parts2 ⟨by rw [List.length_reverse]; exact h.parts.lo, by rw [List.length_reverse]; exact h.parts.hi, fun p hp => h.parts.each p (List.mem_reverse.mp hp), by rw [List.map_reverse]; exact List.pairwise_reverse.mpr (h.parts.nd.imp fun e => e.symm)⟩ fun x => by rw [List.map_reverse, List.mem_reverse]
theorem set_map {α β : Type} {f : α → β} {l : List α} {i : Nat} {x : α} (h : ∀ y, l[i]? = some y → f x = f y) : (l.set i x).map f = l.map f := by
  rw [List.map_set]
  refine List.ext_getElem? fun j => ?_
  rw [List.getElem?_set]
  split
  · rename_i e
    subst e
    split
    · rename_i hl
      rw [List.length_map] at hl
      have e2 : l[i]? = some l[i] := List.getElem?_eq_getElem hl
      rw [List.getElem?_map, e2, h _ e2]
      rfl
    · rename_i hl
      rw [List.getElem?_eq_none (by simpa using hl)]
  · rfl
theorem PlantOk.kind {ps : List (Str × Str)} {gs : List G} {cs : List (Str × List Str)} {tp : Str} (h : PlantOk ps gs cs tp) {i : Nat} {nm kd kd' : Str} (hi : ps[i]? = some (nm, kd)) (hk : kd' ∈ [("hot" : Str), "cold"]) : PlantOk (ps.set i (nm, kd')) gs cs tp := by
  have em : (ps.set i (nm, kd')).map (·.1) = ps.map (·.1) := set_map fun y hy => by rw [hi] at hy; cases hy; rfl
  refine h.parts2 ⟨by rw [List.length_set]; exact h.parts.lo, by rw [List.length_set]; exact h.parts.hi, fun p hp => ?_, by rw [em]; exact h.parts.nd⟩ fun x => by rw [em]
  rcases List.mem_or_eq_of_mem_set hp with hp | rfl
  · exact h.parts.each p hp
  · exact ⟨(h.parts.each _ (List.mem_of_getElem? hi)).name, hk⟩
theorem PlantOk.tl {ps : List (Str × Str)} {gs : List G} {cs : List (Str × List Str)} {tp : Str} (h : PlantOk ps gs cs tp) : PlantOk ps gs (cs.drop 1) tp :=
  h.causes2 ⟨Nat.le_trans (by simp) h.causes.hi, fun c hc => h.causes.each c (List.mem_of_mem_drop hc)⟩
theorem PlantOk.more {ps : List (Str × Str)} {gs : List G} {cs : List (Str × List Str)} {tp : Str} (h : PlantOk ps gs cs tp) {p : Str × Str} (hp : ps[0]? = some p) : PlantOk ps gs (cs.take 3 ++ [(tp, [p.1])]) tp := by
  refine h.causes2 ⟨by rw [List.length_append, List.length_take]; simp; omega, fun c hc => ?_⟩
  rcases List.mem_append.mp hc with hc | hc
  · exact h.causes.each c (List.mem_of_mem_take hc)
  · rw [List.mem_singleton.mp hc]
    refine ⟨List.mem_append_right _ h.top.mem, by simp, by simp, fun x hx => ?_, by simp⟩
    rw [List.mem_singleton.mp hx]
    exact List.mem_map.mpr ⟨p, List.mem_of_getElem? hp, rfl⟩
/-- a drawn plant, its names no q ahead -/
structure WP (ps : List (Str × Str)) (gs : List G) (cs : List (Str × List Str)) (tp : Str) : Prop where
  ok : PlantOk ps gs cs tp
  len : gs.length ≤ 7
  wo : ∀ x ∈ ps.map (·.1) ++ gs.map G.name, WordOk x
theorem first_any (gs : List G) (p : Str) : firstU (gs ++ [anyQ p]) = firstU gs := by
  unfold firstU initU takeU
  rw [List.foldl_append, List.foldl_append]
  rfl
theorem tell_any {ps : List (Str × Str)} {gs : List G} {us : Uses} {p m : Str} : lookT (tellM noBefore [] us ps (gs ++ [anyQ p])) m = if m = qS then lookT (tellM noBefore [] us ps gs) p else lookT (tellM noBefore [] us ps gs) m := by
  unfold tellM
  rw [List.foldl_append]
  show lookT (tell1 noBefore us (gs.foldl (tell1 noBefore us) (partsTr [] ps)) (anyQ p)) m = _
  show lookT (setA (gs.foldl (tell1 noBefore us) (partsTr [] ps)) qS ([p].any (lookT (gs.foldl (tell1 noBefore us) (partsTr [] ps))))) m = _
  rw [look_set]
  simp
section
variable {ps : List (Str × Str)} {gs : List G} {cs : List (Str × List Str)} {tp : Str} {p : Str × Str}
theorem WP.snoc (h : WP ps gs cs tp) (hp : ps[0]? = some p) {tp' : Str} (ht : tp' = tp ∨ tp' = qS) : PlantOk ps (gs ++ [anyQ p.1]) cs tp' := by
  have hm : p.1 ∈ ps.map (·.1) := List.mem_map.mpr ⟨p, List.mem_of_getElem? hp, rfl⟩
  have gl := h.len
  have pl := h.ok.parts.hi
  have gp : GP (ps.map (·.1)) (gs ++ [anyQ p.1]) := GP.snoc h.ok.gates.each ⟨qS_name, fun z => ne_qS (h.wo _ z) rfl, by simp, by simp, fun x hx => by rw [List.mem_singleton.mp hx]; exact List.mem_append_left _ hm, by simp⟩
  have nn : (gs ++ [anyQ p.1]).map G.name = gs.map G.name ++ [qS] := by rw [List.map_append]; rfl
  refine ⟨h.ok.parts, ⟨by simp, by simp; omega, gp⟩, ⟨h.ok.causes.hi, fun c hc => (h.ok.causes.each c hc).mono (fun _ => id) fun x hx => ?_⟩, ⟨?_, tellOk_of gp (by omega) (by simp; omega) (firstU_spare _), fun n qs hq => ?_, ?_⟩⟩
  · rw [nn]
    rcases List.mem_append.mp hx with hx | hx
    · exact List.mem_append_left _ hx
    · exact List.mem_append_right _ (List.mem_append_left _ hx)
  · rw [nn]
    rcases ht with rfl | rfl
    · exact List.mem_append_left _ h.ok.top.mem
    · exact List.mem_append_right _ (List.mem_singleton.mpr rfl)
  · have := gp.pool n qs hq
    simp at this
    omega
  · rw [first_any, tell_any]
    rcases ht with rfl | rfl
    · rw [if_neg (ne_qS (h.wo _ (List.mem_append_right _ h.ok.top.mem)))]
      exact h.ok.top.no
    · rw [if_pos rfl]
      unfold tellM
      rw [look_tell, look_parts]
      intro z
      obtain ⟨g, hg, e⟩ := List.mem_map.mp z
      obtain ⟨i, hi⟩ := List.mem_iff_getElem?.mp hg
      exact (h.ok.gates.each i g hi).new (by rw [e]; exact List.mem_append_left _ hm)
theorem filter_q (h : WP ps gs cs tp) : gs.filter (fun g => decide (g.name ≠ qS)) = gs := List.filter_eq_self.mpr fun g hg => decide_eq_true (ne_qS (h.wo _ (List.mem_append_right _ (List.mem_map.mpr ⟨g, hg, rfl⟩))))
theorem filter_q2 (h : WP ps gs cs tp) : (gs ++ [anyQ p.1]).filter (fun g => decide (g.name ≠ qS)) = gs := by
  rw [List.filter_append, filter_q h]
  have e : [anyQ p.1].filter (fun g => decide (g.name ≠ qS)) = [] := by
    rw [filter_one, if_neg]
    exact fun z => (of_decide_eq_true z) rfl
  rw [e, List.append_nil]
end
end Kf

set_option Elab.async false
set_option linter.all false
set_option maxRecDepth 100000
set_option maxHeartbeats 2000000
namespace Kf
open PySem PySem.Spec PyProof.Rows L2 LamX NdefX TL
theorem iteBt {b : Bool} {A B : Prop} (h : b = true) (a : A) : if b = true then A else B := by
  rw [if_pos h]
  exact a
theorem iteBf {b : Bool} {A B : Prop} (h : b = false) (x : B) : if b = true then A else B := by
  rw [if_neg (by rw [h]; exact Bool.false_ne_true)]
  exact x
theorem tIf_str {kd x a b : Str} {i : Nat} {σ : L2.St} {H : Hp} {Q : VK} (hs : σ[i]? = some (some (.str kd))) (h : ∀ v, v = a ∨ v = b → Q (.str v) H) : tIf (tTest (tOp rEq (tVar i) (tC (.str x)))) (tC (.str a)) (tC (.str b)) σ H Q :=
  ⟨.str kd, hs, rfl, _, rfl, ite2 (fun _ => h _ (.inl rfl)) (fun _ => h _ (.inr rfl))⟩
theorem Each.take {α : Type} {R : V → α → Prop} {xs : List V} {l : List α} (h : Each R xs l) (n : Nat) : Each R (xs.take n) (l.take n) := by
  refine ⟨by simp [h.1], fun i x hx => ?_⟩
  rw [List.getElem?_take] at hx ⊢
  split at hx
  · rename_i hi
    rw [if_pos hi]
    exact h.2 i x hx
  · cases hx
theorem Each.drop {α : Type} {R : V → α → Prop} {xs : List V} {l : List α} (h : Each R xs l) (n : Nat) : Each R (xs.drop n) (l.drop n) := by
  refine ⟨by simp [h.1], fun i x hx => ?_⟩
  rw [List.getElem?_drop] at hx ⊢
  exact h.2 _ x hx
theorem Each.app {α : Type} {R : V → α → Prop} {xs ys : List V} {l k : List α} (h : Each R xs l) (h2 : Each R ys k) : Each R (xs ++ ys) (l ++ k) := by
  refine ⟨by simp [h.1, h2.1], fun i x hx => ?_⟩
  have e := h.1
  by_cases hi : i < xs.length
  · rw [List.getElem?_append_left hi] at hx
    rw [List.getElem?_append_left (by omega)]
    exact h.2 i x hx
  · rw [List.getElem?_append_right (by omega)] at hx
    rw [List.getElem?_append_right (by omega), ← e]
    exact h2.2 _ x hx
theorem Each.rev {α : Type} {R : V → α → Prop} {xs : List V} {l : List α} (h : Each R xs l) : Each R xs.reverse l.reverse := by
  have e := h.1
  refine ⟨by simp [e], fun i x hx => ?_⟩
  have hi : i < xs.length := by
    have := (List.getElem?_eq_some_iff.mp hx).1
    simpa using this
  rw [List.getElem?_reverse hi] at hx
  rw [List.getElem?_reverse (by omega), ← e]
  exact h.2 _ x hx
theorem Each.one {α : Type} {R : V → α → Prop} {x : V} {p : α} (h : R x p) : Each R [x] [p] := Each.snoc Each.nil h
theorem cut_toN {xs : List V} {i : Nat} : cutV xs none (some (i : Int)) = xs.take i := by
  by_cases h : i ≤ xs.length
  · exact cut_to h
  · unfold cutV
    have e1 : HT.sIx xs.length 0 none = 0 := rfl
    have e2 : HT.sIx xs.length xs.length (some (i : Int)) = xs.length := by
      rw [HT.sIx_nat]
      omega
    rw [e1, e2]
    simp only [List.drop_zero, Nat.sub_zero]
    rw [List.take_of_length_le (Nat.le_refl _), List.take_of_length_le (by omega)]
theorem cut_fromN {xs : List V} {i : Nat} : cutV xs (some (i : Int)) none = xs.drop i := by
  by_cases h : i ≤ xs.length
  · exact cut_from h
  · unfold cutV
    have e2 : HT.sIx xs.length xs.length none = xs.length := rfl
    have e1 : HT.sIx xs.length 0 (some (i : Int)) = xs.length := by
      rw [HT.sIx_nat]
      omega
    rw [e1, e2]
    rw [List.drop_eq_nil_of_le (by omega : xs.length ≤ i)]
    simp
section
variable {pa ca ga x : Addr} {tp tp' : V}
theorem put4_g : putK (mkv4 pa ca ga tp) (.inr "gates") (.ref x) = mkv4 pa ca x tp := by with_unfolding_all rfl
theorem put4_p : putK (mkv4 pa ca ga tp) (.inr "parts") (.ref x) = mkv4 x ca ga tp := by with_unfolding_all rfl
theorem put4_c : putK (mkv4 pa ca ga tp) (.inr "causes") (.ref x) = mkv4 pa x ga tp := by with_unfolding_all rfl
theorem put4_t : putK (mkv4 pa ca ga tp) (.inr "top") tp' = mkv4 pa ca ga tp' := by with_unfolding_all rfl
end
theorem Dr.wr {H : Hp} {d L C p : Addr} {o : HO} (D : Dr H d L C) (n0 : p ≠ d) (n1 : p ≠ L) (n2 : p ≠ C) : Dr (upd H p o) d L C := by
  obtain ⟨ls, cs, r, t, m, D⟩ := D
  exact ⟨ls, cs, r, t, m, { D with hd := by rw [upd_ne n0.symm]; exact D.hd, hL := by rw [upd_ne n1.symm]; exact D.hL, hC := by rw [upd_ne n2.symm]; exact D.hC }⟩
theorem kt_dk {K : PySem.W.Frag} {H : Hp} {a : Addr} {kv : List (Key × V)} {o : HO} (h : H a = some (.dK kv)) : KT K H (upd H a o) := fun b xs hb => by
  rcases hb with (h2 | ⟨o, h2⟩) | h2
  · exact .inl (.inl (by rw [upd_ne (ne_of h2 h (by intro z; cases z))]; exact h2))
  · exact .inl (.inr ⟨o, by rw [upd_ne (ne_of h2 h (by intro z; cases z))]; exact h2⟩)
  · exact .inr h2
/-- m and what is made of it -/
structure OSt (K : PySem.W.Frag) (H0 : Hp) (d L C m n pa ca ga : Addr) (xs : List V) (ps : List (Str × Str)) (zs : List V) (cs : List (Str × List Str)) (ys : List V) (gs : List G) (tp : Str) (kv : List (Key × V)) (H : Hp) : Prop where
  D : Dr H d L C
  kp : Kp d L H0 H
  hm : H m = some (.dK (mkv4 pa ca ga (.str tp)))
  hn : H n = some (.dK kv)
  hpa : H pa = some (.lst xs)
  hea : Each (PartAt K H) xs ps
  hca : H ca = some (.lst zs)
  hec : Each (CauseAt K H) zs cs
  hga : H ga = some (.lst ys)
  heg : Each (GateAt K H) ys gs
structure ONe (H0 : Hp) (d L C m n pa ca ga : Addr) : Prop where
  n0 : H0 n = none
  nd : n ≠ d
  nL : n ≠ L
  nC : n ≠ C
  mn : m ≠ n
  md : m ≠ d
  mL : m ≠ L
  paL : pa ≠ L
  caL : ca ≠ L
  gaL : ga ≠ L
section
variable {K : PySem.W.Frag} {H0 H H' : Hp} {d L C m n pa ca ga : Addr} {xs : List V} {ps : List (Str × Str)} {zs : List V} {cs : List (Str × List Str)} {ys : List V} {gs : List G} {tp : Str} {kv : List (Key × V)}
theorem OSt.next (S : OSt K H0 d L C m n pa ca ga xs ps zs cs ys gs tp kv H) (N : ONe H0 d L C m n pa ca ga) (k : Kp d L H H') (D' : Dr H' d L C) : OSt K H0 d L C m n pa ca ga xs ps zs cs ys gs tp kv H' :=
  ⟨D', S.kp.trans k, k _ _ S.hm N.md N.mL, k _ _ S.hn N.nd N.nL, k.lst S.D N.paL S.hpa, S.hea.imp fun _ _ r => PartAt.kt (k.kt S.D) r, k.lst S.D N.caL S.hca, S.hec.imp fun _ _ r => CauseAt.kt (k.kt S.D) r, k.lst S.D N.gaL S.hga, S.heg.imp fun _ _ r => GateAt.kt (k.kt S.D) r⟩
theorem OSt.same (S : OSt K H0 d L C m n pa ca ga xs ps zs cs ys gs tp kv H) (N : ONe H0 d L C m n pa ca ga) (s : Same H H') : OSt K H0 d L C m n pa ca ga xs ps zs cs ys gs tp kv H' := S.next N (Same.kp s) (S.D.same s)
theorem OSt.wr (S : OSt K H0 d L C m n pa ca ga xs ps zs cs ys gs tp kv H) (N : ONe H0 d L C m n pa ca ga) (kv' : List (Key × V)) : OSt K H0 d L C m n pa ca ga xs ps zs cs ys gs tp kv' (upd H n (.dK kv')) := by
  have kt := kt_dk (K := K) (o := .dK kv') S.hn
  have l : ∀ {a : Addr} {l : List V}, H a = some (.lst l) → (upd H n (.dK kv')) a = some (.lst l) := fun h => by rw [upd_ne (ne_of h S.hn (by intro z; cases z))]; exact h
  exact ⟨S.D.wr N.nd N.nL N.nC, S.kp.at N.n0, by rw [upd_ne N.mn]; exact S.hm, upd_same, l S.hpa, S.hea.imp fun _ _ r => PartAt.kt kt r, l S.hca, S.hec.imp fun _ _ r => CauseAt.kt kt r, l S.hga, S.heg.imp fun _ _ r => GateAt.kt kt r⟩
end
section
variable {P : Program} {w : World} {K : PySem.W.Frag} {mg : Str → Option Value} {base : Heap}
def spOther (K : PySem.W.Frag) : Sp := fun vs H Q _ => ∃ d L C m ps cs gs0 gs tp, vs = [.ref d, .ref m] ∧ Dr H d L C ∧ M4 K d L H m ps cs gs tp ∧ WP ps gs0 cs tp ∧ (gs = gs0 ∨ ∃ p, ps[0]? = some p ∧ gs = gs0 ++ [anyQ p.1]) ∧
  ∀ H' n ps' cs' gs' tp', Dr H' d L C → Kp d L H H' → MX K H' n ps' cs' gs' tp' → PlantOk ps' gs' cs' tp' → Q (.ref n) H'
theorem ok_other {f : Addr} {fd : FuncData} (F : L2.Fun K "_law_other" "_law_other" s__law_other f fd) (T : Nm mg) (C__law_take : Cal P w K mg base 1 "_law_take" ["draw", "size"] spTake) : FnOk P w K mg base CX0 2 f fd ["draw", "m"] (spOther K) := by
  refine F.ok sc__law_other (fun vs H Q E h => ?_) (fun cdv A outer s H vs Q E hr h => ?_)
  · obtain ⟨d, L, C, m, ps, cs, gs0, gs, tp, rfl, _⟩ := h
    rfl
  · obtain ⟨d, L, C, m, ps, cs, gs0, gs, tp, rfl, D, hM, ok, hg, q⟩ := h
    have hu := hu_of hr
    refine ⟨_, (pss_cons (ps_set (i := 2) sc__law_other.nd rfl (.inl rfl) (pe_callTy call_dictD (by rfl) T.n_dict (by decide +kernel) (pa_cons (pv 1) pa_nil)))
 (pss_cons (ps_set (i := 3) sc__law_other.nd rfl (.inl rfl) (pe_cal C__law_take (by decide) hr (by rfl) (pa_cons (pv 0) (pa_cons pe_int pa_nil))))
 (pss_cons (ps_if (pt_cmpR op_gt (pv 3) pe_int (nomark _))
 (pss_cons (ps_dput hu (pv 2) pe_str (pe_lc (own := [("gate", 7)]) (g := gName 7) (by rfl) sc__law_other.nd (pi_list (pe_dget hu (pv 1) pe_str (fun _ _ => rfl))) (blkOk_by (own := [("gate", 7)]) (N := ["draw", "m", "n", "way", "spot", "name", "kind", "gate"]) (sc := defScope s__law_other) (by decide +kernel)) (fun _ _ _ _ _ => pg_name (i := 7) sc__law_other.nd rfl (.inl rfl)) (fun _ _ _ _ _ => pts_one (pt_cmpR op_ne (pe_ix (ix_sqK (K := K) rfl) (pv 7) pe_int (fun _ _ => rfl)) pe_str (nomark _))) (fun _ _ _ _ _ => (pv 7))) rfl)
 (pss_one (ps_dput hu (pv 2) pe_str (pe_op op_cat (pe_dget hu (pv 2) pe_str (fun _ _ => rfl)) (pe_lst (pa_cons (pe_tup (pa_cons pe_str (pa_cons pe_str (pa_cons (pe_tup (pa_cons (pe_ix (ix_sqK (K := K) rfl) (pe_ix ix_list (pe_dget hu (pv 1) pe_str (fun _ _ => rfl)) pe_int (fun _ _ => rfl)) pe_int (fun _ _ => rfl)) pa_nil)) pa_nil)))) pa_nil))) rfl)))
 pss_nil)
 (pss_cons (ps_if (pt_cmpR op_eq (pv 3) pe_int (nomark _))
 (pss_one (ps_dput hu (pv 2) pe_str pe_str rfl))
 pss_nil)
 (pss_cons (ps_if (pt_cmpR op_eq (pv 3) pe_int (nomark _))
 (pss_cons (ps_set (i := 4) sc__law_other.nd rfl (.inl rfl) (pe_cal C__law_take (by decide) hr (by rfl) (pa_cons (pv 0) (pa_cons (pe_callB (call_lenK (K := K) rfl) (by rfl) T.n_len (by decide +kernel) (pa_cons (pe_dget hu (pv 1) pe_str (fun _ _ => rfl)) pa_nil)) pa_nil))))
 (pss_cons (ps_asg (pe_ix ix_list (pe_dget hu (pv 1) pe_str (fun _ _ => rfl)) (pv 4) (fun _ _ => rfl)) (pg_tupK (K := K) (n := 2) rfl rfl (pgs_cons (pg_name (i := 5) sc__law_other.nd rfl (.inl rfl)) (pgs_cons (pg_name (i := 6) sc__law_other.nd rfl (.inl rfl)) pgs_nil))))
 (pss_one (ps_dput hu (pv 2) pe_str (pe_op op_cat (pe_op op_cat (pe_slice sl_list (pe_dget hu (pv 1) pe_str (fun _ _ => rfl)) po_none (po_some (pv 4))) (pe_lst (pa_cons (pe_tup (pa_cons (pv 5) (pa_cons (pe_ifExp (pt_cmpR op_eq (pv 6) pe_str (nomark _)) pe_str pe_str) pa_nil))) pa_nil))) (pe_slice sl_list (pe_dget hu (pv 1) pe_str (fun _ _ => rfl)) (po_some (pe_op op_add (pv 4) pe_int)) po_none)) rfl))))
 pss_nil)
 (pss_cons (ps_if (pt_cmpR op_eq (pv 3) pe_int (nomark _))
 (pss_one (ps_dput hu (pv 2) pe_str (pe_op op_cat (pe_slice sl_list (pe_dget hu (pv 1) pe_str (fun _ _ => rfl)) po_none (po_some pe_int)) (pe_lst (pa_cons (pe_tup (pa_cons (pe_dget hu (pv 1) pe_str (fun _ _ => rfl)) (pa_cons (pe_tup (pa_cons (pe_ix (ix_sqK (K := K) rfl) (pe_ix ix_list (pe_dget hu (pv 1) pe_str (fun _ _ => rfl)) pe_int (fun _ _ => rfl)) pe_int (fun _ _ => rfl)) pa_nil)) pa_nil))) pa_nil))) rfl))
 pss_nil)
 (pss_cons (ps_if (pt_cmpR op_eq (pv 3) pe_int (nomark _))
 (pss_one (ps_dput hu (pv 2) pe_str (pe_revL (pe_dget hu (pv 1) pe_str (fun _ _ => rfl))) rfl))
 pss_nil)
 (pss_cons (ps_if (pt_cmpR op_eq (pv 3) pe_int (nomark _))
 (pss_one (ps_dput hu (pv 2) pe_str (pe_slice sl_list (pe_dget hu (pv 1) pe_str (fun _ _ => rfl)) (po_some pe_int) po_none) rfl))
 pss_nil)
 (pss_one (ps_ret (pv 2))))))))))), ?_⟩
    obtain ⟨pa, ca, ga, xs, zs, ys, hm, hpa, hea, hca, hec, hga, heg, md, paL, caL, gaL⟩ := hM.ex
    have hpl := ok.ok.parts.hi
    have hpl1 := ok.ok.parts.lo
    have hcl := ok.ok.causes.hi
    have hgl := ok.len
    have okg : PlantOk ps gs cs tp := by
      rcases hg with rfl | ⟨p, hp, rfl⟩
      · exact ok.ok
      · exact ok.snoc hp (.inl rfl)
    have hg8 := okg.gates.hi
    obtain ⟨p0, hp0⟩ : ∃ p, ps[0]? = some p := ⟨ps[0], List.getElem?_eq_getElem (by omega)⟩
    refine ⟨.ref m, rfl, m, _, rfl, .of hm, fun n nn => ?_⟩
    have D1 := D.new (o := .dK (mkv4 pa ca ga (.str tp))) nn
    have nL := D.neL nn
    refine ⟨.ref d, rfl, d, L, C, 6, rfl, D1, by decide, by decide, fun H2 k D2 k2 k0 k6 => ?_⟩
    have k12 : Kp d L H H2 := (Kp.new (o := .dK (mkv4 pa ca ga (.str tp))) nn).trans k2
    have mL : m ≠ L := by
      obtain ⟨_, _, _, _, _, D'⟩ := D
      exact ne_of hm D'.hL (by intro z; cases z)
    have N : ONe H d L C m n pa ca ga := ⟨nn, nL.2.2, nL.1, nL.2.1, ne_of_none hm nn, md, mL, paL, caL, gaL⟩
    have S : OSt K H d L C m n pa ca ga xs ps zs cs ys gs tp (mkv4 pa ca ga (.str tp)) H2 := ⟨D2, k12, k12 _ _ hm md mL, k2 _ _ upd_same nL.2.2 nL.1, k12.lst D paL hpa, hea.imp fun _ _ r => PartAt.kt (k12.kt D) r, k12.lst D caL hca, hec.imp fun _ _ r => CauseAt.kt (k12.kt D) r, k12.lst D gaL hga, heg.imp fun _ _ r => GateAt.kt (k12.kt D) r⟩
    have six : k = 0 ∨ k = 1 ∨ k = 2 ∨ k = 3 ∨ (k = 4 ∨ k = 5) := by omega
    rcases six with rfl | rfl | rfl | rfl | h45
    · refine ⟨.int 0, rfl, 0, 3, rfl, rfl, _, rfl, iteN (by decide) ?_⟩
      refine ⟨.int 0, rfl, rfl, _, rfl, iteN (by simp) ⟨.int 0, rfl, rfl, _, rfl, iteD (by simp) ?_⟩⟩
      refine ⟨.ref d, rfl, .ref m, rfl, m, .ref pa, rfl, gK S.hm mk4_p, pa, xs, rfl, .inl (.of S.hpa), d, L, C, xs.length, rfl, S.D, by have := S.hea.1; omega, by have := S.hea.1; omega, fun H3 spot D3 k3 s0 s1 => ?_⟩
      have S3 := S.next N k3 D3
      obtain ⟨i, rfl⟩ : ∃ i : Nat, spot = (i : Int) := ⟨spot.toNat, by omega⟩
      have hi : i < xs.length := by omega
      obtain ⟨⟨nm, kd⟩, hpi, t, ht, htt⟩ := S3.hea.2 i xs[i] (List.getElem?_eq_getElem hi)
      refine ⟨.ref m, rfl, m, .ref pa, rfl, gK S3.hm mk4_p, .int (i : Nat), rfl, pa, xs, (i : Int), .ref t, rfl, rfl, .of S3.hpa, atI_nat (by rw [List.getElem?_eq_getElem hi, ht]), t, _, rfl, htt, rfl, .str nm, _, rfl, .str kd, [], rfl, rfl, ?_⟩
      refine ⟨.ref m, rfl, m, .ref pa, rfl, gK S3.hm mk4_p, .int (i : Nat), rfl, i, rfl, pa, xs, rfl, .of S3.hpa, fun p1 np1 => ?_⟩
      have s4 := Same.new (o := .lst (xs.take i)) np1
      have S4 := S3.same N s4
      rw [cut_toN]
      refine ⟨.str nm, rfl, tIf_str (i := 6) rfl fun kd' hkd => ?_⟩
      refine ⟨by show 2 ≤ sizeLine; decide, fun t' nt' => ⟨by show 1 ≤ sizeLine; decide, fun p2 np2 => ?_⟩⟩
      have s5 := Same.new (o := .tup [.str nm, .str kd']) nt'
      have S5 := S4.same N s5
      have s6 := Same.new (o := .lst [.ref t']) np2
      have S6 := S5.same N s6
      have hp1 := s6 _ _ (s5 _ _ (upd_same (H := H3) (a := p1) (o := .lst (xs.take i))))
      refine ⟨p1, p2, _, _, rfl, rfl, hp1, upd_same, by have h1 := List.length_take_le i xs; have h2 := S.hea.1; rw [sizeLine_eq]; simp only [List.length_cons, List.length_nil]; omega, fun p3 np3 => ?_⟩
      have s7 := Same.new (o := .lst (xs.take i ++ [.ref t'])) np3
      have S7 := S6.same N s7
      refine ⟨.ref m, rfl, m, .ref pa, rfl, gK S7.hm mk4_p, .int (i : Nat), rfl, i, 1, rfl, rfl, (i : Int) + 1, rfl, pa, xs, rfl, .of S7.hpa, fun p4 np4 => ?_⟩
      have ei : (i : Int) + 1 = ((i + 1 : Nat) : Int) := by omega
      rw [ei, cut_fromN]
      have s8 := Same.new (o := .lst (xs.drop (i + 1))) np4
      have S8 := S7.same N s8
      have hp3 := s8 _ _ (upd_same (a := p3) (o := .lst (xs.take i ++ [.ref t'])))
      refine ⟨p3, p4, _, _, rfl, rfl, hp3, upd_same, by have h1 := List.length_take_le i xs; have h2 := S.hea.1; have h3 := List.length_drop (l := xs) (i := i + 1); rw [sizeLine_eq]; simp only [List.length_append, List.length_cons, List.length_nil]; omega, fun p5 np5 => ?_⟩
      have s9 := Same.new (o := .lst (xs.take i ++ [.ref t'] ++ xs.drop (i + 1))) np5
      have S9 := S8.same N s9
      have S10 := S9.wr N (mkv4 p5 ca ga (.str tp))
      refine ⟨.ref n, rfl, n, _, rfl, DPut.k (k := .inr "parts") S9.hn (small1000 (by show 4 ≤ 1000; decide)), ?_⟩
      rw [put4_p]
      refine ⟨.int 0, rfl, rfl, _, rfl, iteN (by simp) ⟨.int 0, rfl, rfl, _, rfl, iteN (by simp) ⟨.int 0, rfl, rfl, _, rfl, iteN (by simp) ⟨.ref n, rfl, ?_⟩⟩⟩⟩
      have kt9 : KT K (upd (upd H3 p1 (.lst (xs.take i))) t' (.tup [.str nm, .str kd'])) _ := (Same.kt (s6.trans (s7.trans (s8.trans s9)))).trans (kt_dk (K := K) (o := .dK (mkv4 p5 ca ga (.str tp))) S9.hn)
      have il : i < ps.length := by have := S.hea.1; omega
      refine q _ n (ps.set i (nm, kd')) cs gs tp S10.D S10.kp ⟨_, p5, ca, ga, _, zs, ys, S10.hn, mk4_p, mk4_c, mk4_g, mk4_t, (by rw [upd_ne (ne_of_none S8.hn np5).symm]; exact upd_same), ?_, S10.hca, S10.hec, S10.hga, S10.heg⟩ (okg.kind hpi ?_)
      · rw [List.set_eq_take_append_cons_drop, if_pos il, show ps.take i ++ (nm, kd') :: ps.drop (i + 1) = ps.take i ++ [(nm, kd')] ++ ps.drop (i + 1) by simp]
        exact ((S10.hea.take i).app (.one ⟨t', rfl, kt9 _ _ (.of upd_same)⟩)).app (S10.hea.drop (i + 1))
      · simp only [List.mem_cons, List.not_mem_nil, or_false]
        rcases hkd with h | h
        · exact .inr h
        · exact .inl h
    · refine ⟨.int 1, rfl, 1, 3, rfl, rfl, _, rfl, iteN (by decide) ?_⟩
      refine ⟨.int 1, rfl, rfl, _, rfl, iteN (by simp) ⟨.int 1, rfl, rfl, _, rfl, iteN (by simp) ⟨.int 1, rfl, rfl, _, rfl, iteD (by simp) ?_⟩⟩⟩
      refine ⟨.ref m, rfl, m, .ref ca, rfl, gK S.hm mk4_c, 3, rfl, ca, zs, rfl, .of S.hca, fun p1 np1 => ?_⟩
      have e3 : (3 : Int) = ((3 : Nat) : Int) := rfl
      rw [e3, cut_toN]
      have s1 := Same.new (o := .lst (zs.take 3)) np1
      have S1 := S.same N s1
      obtain ⟨x0, hx0⟩ : ∃ x, xs[0]? = some x := ⟨xs[0]'(by have := S.hea.1; omega), List.getElem?_eq_getElem _⟩
      obtain ⟨q0, hq0, t, rfl, htt⟩ := S1.hea.2 0 x0 hx0
      refine ⟨.ref m, rfl, m, .str tp, rfl, gK S1.hm mk4_t, .ref m, rfl, m, .ref pa, rfl, gK S1.hm mk4_p, pa, xs, 0, .ref t, rfl, rfl, .of S1.hpa, atI_nat (j := 0) hx0, t, _, 0, .str q0.1, rfl, rfl, .inr htt, at0, by show 1 ≤ sizeLine; decide, fun t1 nt1 => ⟨by show 2 ≤ sizeLine; decide, fun t2 nt2 => ⟨by show 1 ≤ sizeLine; decide, fun p2 np2 => ?_⟩⟩⟩
      have s2 := Same.new (o := .tup [.str q0.1]) nt1
      have s3 := Same.new (o := .tup [.str tp, .ref t1]) nt2
      have s4 := Same.new (o := .lst [.ref t2]) np2
      have s234 := s2.trans (s3.trans s4)
      have S4 := S1.same N s234
      have hp1 := s234 _ _ (upd_same (H := H2) (a := p1) (o := .lst (zs.take 3)))
      refine ⟨p1, p2, _, _, rfl, rfl, hp1, upd_same, by have h1 := List.length_take_le 3 zs; have h2 := S.hec.1; rw [sizeLine_eq]; simp only [List.length_cons, List.length_nil]; omega, fun p3 np3 => ?_⟩
      have s5 := Same.new (o := .lst (zs.take 3 ++ [.ref t2])) np3
      have S5 := S4.same N s5
      have S6 := S5.wr N (mkv4 pa p3 ga (.str tp))
      refine ⟨.ref n, rfl, n, _, rfl, DPut.k (k := .inr "causes") S5.hn (small1000 (by show 4 ≤ 1000; decide)), ?_⟩
      rw [put4_c]
      refine ⟨.int 1, rfl, rfl, _, rfl, iteN (by simp) ⟨.int 1, rfl, rfl, _, rfl, iteN (by simp) ⟨.ref n, rfl, ?_⟩⟩⟩
      have ktw := kt_dk (K := K) (o := .dK (mkv4 pa p3 ga (.str tp))) S5.hn
      refine q _ n ps (cs.take 3 ++ [(tp, [q0.1])]) gs tp S6.D S6.kp ⟨_, pa, p3, ga, xs, _, ys, S6.hn, mk4_p, mk4_c, mk4_g, mk4_t, S6.hpa, S6.hea, (by rw [upd_ne (ne_of_none S4.hn np3).symm]; exact upd_same), ?_, S6.hga, S6.heg⟩ (okg.more hq0)
      exact (S6.hec.take 3).app (.one ⟨t2, t1, rfl, ktw _ _ (Same.sqt (s4.trans s5) (.of upd_same)), ktw _ _ (Same.sqt (s3.trans (s4.trans s5)) (.of upd_same))⟩)
    · refine ⟨.int 2, rfl, 2, 3, rfl, rfl, _, rfl, iteN (by decide) ?_⟩
      refine ⟨.int 2, rfl, rfl, _, rfl, iteN (by simp) ⟨.int 2, rfl, rfl, _, rfl, iteN (by simp) ⟨.int 2, rfl, rfl, _, rfl, iteN (by simp) ⟨.int 2, rfl, rfl, _, rfl, iteD (by simp) ?_⟩⟩⟩⟩
      refine ⟨.ref m, rfl, m, .ref pa, rfl, gK S.hm mk4_p, pa, xs, rfl, .of S.hpa, fun p1 np1 => ?_⟩
      have s1 := Same.new (o := .lst xs.reverse) np1
      have S1 := S.same N s1
      have S2 := S1.wr N (mkv4 p1 ca ga (.str tp))
      refine ⟨.ref n, rfl, n, _, rfl, DPut.k (k := .inr "parts") S1.hn (small1000 (by show 4 ≤ 1000; decide)), ?_⟩
      rw [put4_p]
      refine ⟨.int 2, rfl, rfl, _, rfl, iteN (by simp) ⟨.ref n, rfl, ?_⟩⟩
      exact q _ n ps.reverse cs gs tp S2.D S2.kp ⟨_, p1, ca, ga, _, zs, ys, S2.hn, mk4_p, mk4_c, mk4_g, mk4_t, (by rw [upd_ne (ne_of_none S.hn np1).symm]; exact upd_same), S2.hea.rev, S2.hca, S2.hec, S2.hga, S2.heg⟩ okg.rev
    · refine ⟨.int 3, rfl, 3, 3, rfl, rfl, _, rfl, iteN (by decide) ?_⟩
      refine ⟨.int 3, rfl, rfl, _, rfl, iteN (by simp) ⟨.int 3, rfl, rfl, _, rfl, iteN (by simp) ⟨.int 3, rfl, rfl, _, rfl, iteN (by simp) ⟨.int 3, rfl, rfl, _, rfl, iteN (by simp) ⟨.int 3, rfl, rfl, _, rfl, iteD (by simp) ?_⟩⟩⟩⟩⟩
      refine ⟨.ref m, rfl, m, .ref ca, rfl, gK S.hm mk4_c, 1, rfl, ca, zs, rfl, .of S.hca, fun p1 np1 => ?_⟩
      have e3 : (1 : Int) = ((1 : Nat) : Int) := rfl
      rw [e3, cut_fromN]
      have s1 := Same.new (o := .lst (zs.drop 1)) np1
      have S1 := S.same N s1
      have S2 := S1.wr N (mkv4 pa p1 ga (.str tp))
      refine ⟨.ref n, rfl, n, _, rfl, DPut.k (k := .inr "causes") S1.hn (small1000 (by show 4 ≤ 1000; decide)), ?_⟩
      rw [put4_c]
      refine ⟨.ref n, rfl, ?_⟩
      exact q _ n ps (cs.drop 1) gs tp S2.D S2.kp ⟨_, pa, p1, ga, xs, _, ys, S2.hn, mk4_p, mk4_c, mk4_g, mk4_t, S2.hpa, S2.hea, (by rw [upd_ne (ne_of_none S.hn np1).symm]; exact upd_same), S2.hec.drop 1, S2.hga, S2.heg⟩ okg.tl
    · have h3 : 3 < k := by omega
      refine ⟨.int k, rfl, k, 3, rfl, rfl, _, rfl, iteD h3 ?_⟩
      refine ⟨.ref m, rfl, m, .ref ga, rfl, gK S.hm mk4_g, ga, rfl, ⟨_, .of S.hga⟩, fun fl nfl => ?_⟩
      have elg := S.heg.1
      have gat : ∀ i g, gs[i]? = some g → (i < gs0.length ∧ G.name g ≠ qS) ∨ (i = gs0.length ∧ g.name = qS) := fun i g hgi => by
        have key : ∀ i g, gs0[i]? = some g → G.name g ≠ qS := fun i g h => ne_qS (ok.wo _ (List.mem_append_right _ (List.mem_map.mpr ⟨g, List.mem_of_getElem? h, rfl⟩)))
        rcases hg with rfl | ⟨p, hp, rfl⟩
        · exact .inl ⟨(List.getElem?_eq_some_iff.mp hgi).1, key i g hgi⟩
        · by_cases hi : i < gs0.length
          · rw [List.getElem?_append_left hi] at hgi
            exact .inl ⟨hi, key i g hgi⟩
          · have hl := (List.getElem?_eq_some_iff.mp hgi).1
            rw [List.length_append, List.length_singleton] at hl
            have ei : i = gs0.length := by omega
            subst ei
            rw [List.getElem?_append_right (Nat.le_refl _), Nat.sub_self] at hgi
            cases hgi
            exact .inr ⟨rfl, rfl⟩
      have gtk : gs.take gs0.length = gs0 := by
        rcases hg with rfl | ⟨p, hp, rfl⟩
        · exact List.take_length
        · exact List.take_left
      have hglen : gs0.length ≤ ys.length := by
        have h1 := congrArg List.length gtk
        rw [List.length_take] at h1
        omega
      refine lc_it (walk_list (xs := ys)) (LP H2 fl fun i => ys.take (min i gs0.length)) (LP.zero nfl (by simp)) (fun _ _ _ p => .of (p.sm _ _ S.hga)) (fun i x H3 H4 hi p y => ?_) (fun H3 p => ?_)
      · obtain ⟨rfl, hx⟩ := y
        obtain ⟨g, hgi, r⟩ := S.heg.2 i x hx
        obtain ⟨t, rest, rfl, ht, _⟩ := (GateAt.kt (Same.kt p.sm) r).cut
        refine ⟨rfl, .ref t, rfl, t, _, 0, .str g.name, rfl, rfl, .inr ht, at0, rfl, _, rfl, ?_⟩
        have hiy : i < ys.length := hi
        have g8 := S.heg.1
        rcases gat i g hgi with ⟨hl, hne⟩ | ⟨he, hqs⟩
        · refine iteBt (by rw [decStr]; show (!decide (g.name = qS)) = true; rw [decide_eq_false hne]; rfl) ⟨.ref t, rfl, p.put nfl (Same.refl _) ?_ ?_⟩
          · show ys.take (min (i + 1) gs0.length) = ys.take (min i gs0.length) ++ [V.ref t]
            rw [Nat.min_eq_left (by omega), Nat.min_eq_left (by omega), List.take_add_one, hx]
            rfl
          · have h1 := List.length_take_le (min i gs0.length) ys
            rw [sizeLine_eq]
            show (ys.take (min i gs0.length)).length < _
            omega
        · refine iteBf (by rw [decStr]; show (!decide (g.name = qS)) = false; rw [decide_eq_true hqs]; rfl) (p.skip (Same.refl _) ?_)
          show ys.take (min (i + 1) gs0.length) = ys.take (min i gs0.length)
          rw [Nat.min_eq_right (by omega), Nat.min_eq_right (by omega)]
      · have hF : H3 fl = some (.lst (ys.take gs0.length)) := by
          have := p.at_
          rw [Nat.min_eq_right hglen] at this
          exact this
        have S3 := S.same N p.sm
        refine ⟨.ref n, rfl, n, _, rfl, DPut.k (k := .inr "gates") S3.hn (small1000 (by show 4 ≤ 1000; decide)), ?_⟩
        rw [put4_g]
        have S4 := S3.wr N (mkv4 pa ca fl (.str tp))
        have hF4 : (upd H3 n (.dK (mkv4 pa ca fl (.str tp)))) fl = some (.lst (ys.take gs0.length)) := by
          rw [upd_ne (ne_of hF S3.hn (by intro z; cases z))]
          exact hF
        obtain ⟨x0, hx0⟩ : ∃ x, xs[0]? = some x := ⟨xs[0]'(by have := S.hea.1; omega), List.getElem?_eq_getElem _⟩
        obtain ⟨q0, hq0, t, rfl, htt⟩ := S4.hea.2 0 x0 hx0
        refine ⟨.ref n, rfl, n, .ref fl, rfl, gK S4.hn mk4_g, .ref m, rfl, m, .ref pa, rfl, gK S4.hm mk4_p, pa, xs, 0, .ref t, rfl, rfl, .of S4.hpa, atI_nat (j := 0) hx0, t, _, 0, .str q0.1, rfl, rfl, .inr htt, at0, by show 1 ≤ sizeLine; decide, fun t1 nt1 => ⟨by show 3 ≤ sizeLine; decide, fun t2 nt2 => ⟨by show 1 ≤ sizeLine; decide, fun p2 np2 => ?_⟩⟩⟩
        have s2 := Same.new (o := .tup [.str q0.1]) nt1
        have s3 := Same.new (o := .tup [.str qS, .str "any", .ref t1]) nt2
        have s4 := Same.new (o := .lst [.ref t2]) np2
        have s234 := s2.trans (s3.trans s4)
        have S5 := S4.same N s234
        refine ⟨fl, p2, _, _, rfl, rfl, s234 _ _ hF4, upd_same, by have h1 := List.length_take_le gs0.length ys; rw [sizeLine_eq]; simp only [List.length_cons, List.length_nil]; omega, fun p3 np3 => ?_⟩
        have s5 := Same.new (o := .lst (ys.take gs0.length ++ [.ref t2])) np3
        have S6 := S5.same N s5
        have S7 := S6.wr N (mkv4 pa ca p3 (.str tp))
        refine ⟨.ref n, rfl, n, _, rfl, DPut.k (k := .inr "gates") S6.hn (small1000 (by show 4 ≤ 1000; decide)), ?_⟩
        rw [put4_g]
        have ktw := kt_dk (K := K) (o := .dK (mkv4 pa ca p3 (.str tp))) S6.hn
        have hp7 : ∀ (Hx : Hp) o, (upd (upd Hx p3 (.lst (ys.take gs0.length ++ [.ref t2]))) n o) p3 = some (.lst (ys.take gs0.length ++ [.ref t2]))   := fun Hx o => by
          rw [upd_ne (ne_of_none S5.hn np3).symm]
          exact upd_same
        have h7 := S7.heg.take gs0.length
        rw [gtk] at h7
        have hE7 := h7.app (k := [anyQ q0.1]) (ys := [.ref t2]) (.one ⟨t2, t1, rfl, ktw _ _ (Same.sqt (s4.trans s5) (.of upd_same)), ktw _ _ (Same.sqt (s3.trans (s4.trans s5)) (.of upd_same))⟩)
        refine ⟨.int k, rfl, rfl, _, rfl, ite2 (fun e => ?_) (fun e => ?_)⟩
        · refine ⟨.ref n, rfl, n, _, rfl, DPut.k (k := .inr "top") S7.hn (small1000 (by show 4 ≤ 1000; decide)), ?_⟩
          rw [put4_t]
          have S8 := S7.wr N (mkv4 pa ca p3 (.str qS))
          have ktw8 := kt_dk (K := K) (o := .dK (mkv4 pa ca p3 (.str qS))) S7.hn
          refine ⟨.int k, rfl, rfl, _, rfl, iteN (by simp; omega) ⟨.int k, rfl, rfl, _, rfl, iteN (by simp; omega) ⟨.int k, rfl, rfl, _, rfl, iteN (by simp; omega) ⟨.int k, rfl, rfl, _, rfl, iteN (by simp; omega) ⟨.ref n, rfl, ?_⟩⟩⟩⟩⟩
          refine q _ n ps cs (gs0 ++ [anyQ q0.1]) qS S8.D S8.kp ⟨_, pa, ca, p3, xs, zs, _, S8.hn, mk4_p, mk4_c, mk4_g, mk4_t, S8.hpa, S8.hea, S8.hca, S8.hec, (by rw [upd_ne (ne_of_none S5.hn np3).symm]; exact hp7 _ _), hE7.imp fun _ _ r => GateAt.kt ktw8 r⟩ (ok.snoc hq0 (.inr rfl))
        · refine ⟨.int k, rfl, rfl, _, rfl, iteN (by simp; omega) ⟨.int k, rfl, rfl, _, rfl, iteN (by simp; omega) ⟨.int k, rfl, rfl, _, rfl, iteN (by simp; omega) ⟨.int k, rfl, rfl, _, rfl, iteN (by simp; omega) ⟨.ref n, rfl, ?_⟩⟩⟩⟩⟩
          exact q _ n ps cs (gs0 ++ [anyQ q0.1]) tp S7.D S7.kp ⟨_, pa, ca, p3, xs, zs, _, S7.hn, mk4_p, mk4_c, mk4_g, mk4_t, S7.hpa, S7.hea, S7.hca, S7.hec, hp7 _ _, hE7⟩ (ok.snoc hq0 (.inl rfl))
end
end Kf

set_option Elab.async false
set_option linter.all false
set_option maxRecDepth 100000
set_option maxHeartbeats 2000000
namespace Kf
open PySem PySem.Spec PyProof.Rows L2 LamX NdefX TL
/-! ## repr of plants' data -/
structure RpOk (n : Nat) (d : PyData) : Prop where
  ish : d.intsShort 13 = true
  sh : d.showable = true
  bk : d.bulk ≤ n
theorem RpOk.up {n m : Nat} {d : PyData} (h : RpOk n d) (hm : n ≤ m) : RpOk m d := ⟨h.ish, h.sh, Nat.le_trans h.bk hm⟩
theorem rp_str {z : Str} {n : Nat} (h : z.length ≤ n) : RpOk n (.str z) := ⟨rfl, rfl, h⟩
theorem rp_int {i : Int} (h0 : 0 ≤ i) (h1 : i ≤ 1000) : RpOk 0 (.int i) := by
  have e : noneOrIn (-1) 1001 (.int i) = true := by
    simp only [noneOrIn, Bool.and_eq_true, decide_eq_true_eq]
    exact ⟨by omega, by omega⟩
  refine ⟨intsShort_of_noneOrIn (by decide) (by decide) _ e, ?_, Nat.le_refl _⟩
  show decide (i.natAbs.log2 < 1920) = true
  have := Nat.log2_le_self i.natAbs
  exact decide_eq_true (by omega)
theorem rp_all {n : Nat} : ∀ {ds : List PyData}, (∀ d ∈ ds, RpOk n d) → PyData.intsShortAll 13 ds = true ∧ PyData.showableAll ds = true ∧ PyData.bulkAll ds ≤ ds.length * (n + 1)
  | [], _ => ⟨rfl, rfl, Nat.zero_le _⟩
  | d :: r, h => by
    obtain ⟨h1, h2, h3⟩ := rp_all (ds := r) fun x hx => h x (List.mem_cons_of_mem _ hx)
    have hd := h d (List.mem_cons_self ..)
    refine ⟨?_, ?_, ?_⟩
    · simp only [PyData.intsShortAll, Bool.and_eq_true]
      exact ⟨hd.ish, h1⟩
    · simp only [PyData.showableAll, Bool.and_eq_true]
      exact ⟨hd.sh, h2⟩
    · simp only [PyData.bulkAll, List.length_cons, Nat.add_mul, Nat.one_mul]
      have := hd.bk
      omega
theorem rp_tup {n m : Nat} {ds : List PyData} (h : ∀ d ∈ ds, RpOk n d) (hm : ds.length * (n + 1) ≤ m) : RpOk m (.tuple ds) := by
  obtain ⟨h1, h2, h3⟩ := rp_all h
  refine ⟨?_, ?_, ?_⟩
  · simp only [PyData.intsShort]
    exact h1
  · simp only [PyData.showable]
    exact h2
  · simp only [PyData.bulk]
    omega
theorem rp_map {α : Type} {D : α → PyData} {n m k : Nat} {l : List α} (h : ∀ x ∈ l, RpOk n (D x)) (hl : l.length ≤ k) (hm : k * (n + 1) ≤ m) : RpOk m (.tuple (l.map D)) :=
  rp_tup (fun d hd => by
    obtain ⟨x, hx, rfl⟩ := List.mem_map.mp hd
    exact h x hx) (by
    rw [List.length_map]
    exact Nat.le_trans (Nat.mul_le_mul_right _ hl) hm)
theorem rp_strs {l : List Str} (h : ∀ x ∈ l, NameOk x) (hl : l.length ≤ 1000) : RpOk 7000 (strsD l) := rp_map (n := 6) (fun x hx => rp_str (h x hx).hi) hl (by decide)
theorem rp4 {n m : Nat} {a b c d : PyData} (h1 : RpOk n a) (h2 : RpOk n b) (h3 : RpOk n c) (h4 : RpOk n d) (hm : 4 * (n + 1) ≤ m) : RpOk m (.tuple [a, b, c, d]) := rp_tup (fun x hx => by
  simp only [List.mem_cons, List.not_mem_nil, or_false] at hx
  rcases hx with rfl | rfl | rfl | rfl <;> assumption) hm
theorem rp3 {n m : Nat} {a b c : PyData} (h1 : RpOk n a) (h2 : RpOk n b) (h3 : RpOk n c) (hm : 3 * (n + 1) ≤ m) : RpOk m (.tuple [a, b, c]) := rp_tup (fun x hx => by
  simp only [List.mem_cons, List.not_mem_nil, or_false] at hx
  rcases hx with rfl | rfl | rfl <;> assumption) hm
theorem rp2 {n m : Nat} {a b : PyData} (h1 : RpOk n a) (h2 : RpOk n b) (hm : 2 * (n + 1) ≤ m) : RpOk m (.tuple [a, b]) := rp_tup (fun x hx => by
  simp only [List.mem_cons, List.not_mem_nil, or_false] at hx
  rcases hx with rfl | rfl <;> assumption) hm
theorem ChoiceOk.rp {l names : List Str} (h : ChoiceOk l names) (hn : ∀ x ∈ names, NameOk x) : RpOk 7000 (strsD l) := rp_strs (fun x hx => hn x (h.sub x hx)) h.len
theorem rp_lit {z : Str} (h : decide (z.length ≤ 6) = true) : RpOk 7000 (.str z) := (rp_str (of_decide_eq_true h)).up (by decide)
theorem rp_nm {z : Str} (h : NameOk z) : RpOk 7000 (.str z) := (rp_str h.hi).up (by decide)
theorem GateOk.rp {parts names : List Str} {g : G} (h : GateOk parts names g) (hp : ∀ x ∈ parts, NameOk x) (hn : ∀ x ∈ names, NameOk x) : RpOk 28004 (gateD g) := by
  have nm := rp_nm h.name
  have ins := h.ins
  cases g with
  | all n l => exact rp3 nm (rp_lit (by decide +kernel)) (ChoiceOk.rp ins hn) (by decide)
  | any n l => exact rp3 nm (rp_lit (by decide +kernel)) (ChoiceOk.rp ins hn) (by decide)
  | least n m l =>
    have hl := ins.1.len
    exact rp4 nm (rp_lit (by decide +kernel)) ((rp_int (by have := ins.2.1; omega) (by have := ins.2.2; omega)).up (Nat.zero_le _)) (ChoiceOk.rp ins.1 hn) (by decide)
  | before n x y => exact rp4 nm (rp_lit (by decide +kernel)) (rp_nm (hn x (ins.sub x (by simp)))) (rp_nm (hn y (ins.sub y (by simp)))) (by decide)
  | spare n l => exact rp3 nm (rp_lit (by decide +kernel)) (ChoiceOk.rp ins hp) (by decide)
theorem PlantOk.partN {ps : List (Str × Str)} {gs : List G} {cs : List (Str × List Str)} {tp : Str} (h : PlantOk ps gs cs tp) : ∀ x ∈ ps.map (·.1), NameOk x := fun x hx => by
  obtain ⟨p, hp, rfl⟩ := List.mem_map.mp hx
  exact (h.parts.each p hp).name
theorem PlantOk.gateN {ps : List (Str × Str)} {gs : List G} {cs : List (Str × List Str)} {tp : Str} (h : PlantOk ps gs cs tp) : ∀ x ∈ gs.map G.name, NameOk x := fun x hx => by
  obtain ⟨g, hg, rfl⟩ := List.mem_map.mp hx
  obtain ⟨i, hi⟩ := List.mem_iff_getElem?.mp hg
  exact (h.gates.each i g hi).name
theorem PlantOk.rp {ps : List (Str × Str)} {gs : List G} {cs : List (Str × List Str)} {tp : Str} (h : PlantOk ps gs cs tp) : RpOk 1000000 (plantD ps gs cs tp) := by
  have hP := h.partN
  have hN : ∀ x ∈ ps.map (·.1) ++ gs.map G.name, NameOk x := fun x hx => (List.mem_append.mp hx).elim (hP x) (h.gateN x)
  have r1 : RpOk 224040 (partsD ps) := rp_map (n := 14002) (k := 8) (fun p hp => rp2 (rp_nm (h.parts.each p hp).name) (by
    have hk := (h.parts.each p hp).kind
    simp only [List.mem_cons, List.not_mem_nil, or_false] at hk
    rcases hk with e | e <;> rw [e] <;> exact rp_lit (by decide +kernel)) (by decide)) h.parts.hi (by decide)
  have r2 : RpOk 224040 (gatesD gs) := rp_map (n := 28004) (k := 8) (fun g hg => by
    obtain ⟨i, hi⟩ := List.mem_iff_getElem?.mp hg
    refine (h.gates.each i g hi).rp hP fun x hx => hN x ?_
    rcases List.mem_append.mp hx with hx | hx
    · exact List.mem_append_left _ hx
    · obtain ⟨g', hg', rfl⟩ := List.mem_map.mp hx
      exact List.mem_append_right _ (List.mem_map.mpr ⟨g', List.mem_of_mem_take hg', rfl⟩)) h.gates.hi (by decide)
  have r3 : RpOk 224040 (causesD cs) := rp_map (n := 14002) (k := 4) (fun c hc => rp2 (rp_nm (hN _ (h.causes.each c hc).trig)) ((h.causes.each c hc).ch.rp hP) (by decide)) h.causes.hi (by decide)
  exact rp4 r1 r2 r3 ((rp_nm (h.gateN _ h.top.mem)).up (by decide)) (by decide)
theorem RpOk.fits {n : Nat} {d : PyData} (h : RpOk n d) (hn : n ≤ 1048576) (hc : d.canLay0 = true) : d.shown.length ≤ sizeLine :=
  PyData.shown_fits_bulk (B := 13) (by decide) (by decide) (PyData.leavesShort_of_canLay0 13 d hc h.ish) (Nat.le_trans h.bk (Nat.le_trans hn (by decide)))
/-- repr(x), x a value of lists and tuples -/
def rReprD (K : PySem.W.Frag) : List V → Hp → VK → Prop := fun xs H Q => ∃ a d, xs = [.ref a] ∧ Dp K H (.ref a) d ∧ d.showable = true ∧ d.canLay0 = true ∧ d.depth ≤ 100 ∧ d.shown.length ≤ sizeLine ∧ Q (.str d.shown) H
theorem call_reprD {X : Cx} {k : Nat} (hg : X.A.guards = some []) (hr : Room k X.A) : CallR X (.builtin "repr") (rReprD X.K) := by
  intro pins s σ H xs us Q I r q
  obtain ⟨a, d, rfl, hd, hs, hc, hdp, hz, q⟩ := q
  obtain ⟨u, rfl, ru⟩ := r.one
  cases (show u = Value.ref a from ru)
  obtain ⟨as, rd⟩ := Dp.reads I d _ _ hd ru
  refine repr_of_reads' rd hs (PyData.noDict_hsm (PyData.hasDict_of_canLay d hc)) hg (by have := hr.un; omega) (fun b o e => e) (fun h' u tk hk => ?_) hz
  exact ⟨.str d.shown, H, I.kept hk, ⟨u, rfl⟩, q⟩
end Kf

set_option Elab.async false
set_option linter.all false
set_option maxRecDepth 100000
set_option maxHeartbeats 2000000
namespace Kf
open PySem PySem.Spec PyProof.Rows L2 LamX NdefX TL
theorem len1 {α : Type} {l : List α} (h : l.length = 1) : ∃ a, l = [a] := by
  match l, h with
  | [a], _ => exact ⟨a, rfl⟩
theorem len4 {α : Type} {l : List α} (h : l.length = 4) : ∃ a b c d, l = [a, b, c, d] := by
  match l, h with
  | [a, b, c, d], _ => exact ⟨a, b, c, d, rfl⟩
section
variable {P : Program} {w : World} {K : PySem.W.Frag} {mg : Str → Option Value} {base : Heap}
/-- a class that is made by keywords alone -/
structure MakK (P : Program) (w : World) (K : PySem.W.Frag) (mg : Str → Option Value) (base : Heap) (k : Nat) (x : Str) (C : Addr) (ps ks : List Str) (sp : Sp) : Prop where
  ex : ∃ f fd, Mk K C f ∧ mg x = some (.ref C) ∧ KBn K fd ps 1 ks (fun us ws => us ++ ws.reverse) (fun vs zs => vs ++ zs.reverse) ∧ FnOk P w K mg base CX0 k f fd ps sp
theorem kb_plant {f : Addr} {fd : FuncData} (F : L2.Fun K "__init__" "Plant.__init__" s_Plant___init__ f fd) : KBn K fd ["self", "parts", "gates", "causes", "top"] 1 ["top", "causes", "gates", "parts"] (fun us ws => us ++ ws.reverse) (fun vs zs => vs ++ zs.reverse) := by
  obtain ⟨oc, od, kV, doc, pm, an, cdv, ct, osl, rfl, lk, hcd⟩ := F.ex
  refine ⟨fun s us ws _ l1 l2 => ?_, fun r1 r2 => r1.append r2.reverse⟩
  obtain ⟨u, rfl⟩ := len1 l1
  obtain ⟨a, b, c, d, rfl⟩ := len4 l2
  exact .of_eq (by rfl)
theorem pe_makK {X : Cx} {k j : Nat} {x : Str} {C : Addr} {ps ks : List Str} {sp : Sp} {p pos : Pos} {kws : List Keyword} {tk : TA} (M : MakK X.prog X.w X.K X.mg X.base k x C ps ks sp) (hk : k + 1 ≤ j) (hr : Room j X.A) (hg : Gl X x) (hkw : PK X kws tk)
    (hall : (backToKw pos (keywordEach kws X.env)).all (·.1.isSome) = true := by rfl) (hks : (backToKw pos (keywordEach kws X.env)).filterMap (·.1) = ks := by rfl) (hdb : (x == ("__debug__" : Str)) = false := by decide)
    (hpl : ((backTo pos (starEach [] X.env)).any (·.1) || (backToKw pos (keywordEach kws X.env)).any (·.1.isNone)) = false := by rfl) : PE X (.Call (.Name x p) [] kws pos) (tMakeK C 0 ks.length sp (fun vs zs => vs ++ zs.reverse) E0 tNil tk) := by
  obtain ⟨f, fd, mk, m, b, F⟩ := M.ex
  exact pe_makeK0 mk F (hr.mono hk) hg m b pass0 hkw hall hks hdb hpl
/-- a promise where no guard stands around -/
structure FnOkG (P : Program) (w : World) (K : PySem.W.Frag) (mg : Str → Option Value) (base : Heap) (k : Nat) (f : Addr) (fd : FuncData) (ps : List Str) (sp : Sp) : Prop where
  len : ∀ vs H Q E, sp vs H Q E → vs.length = ps.length
  run : ∀ (A : Around) (outer : List Env) (s : Shared) (H : Hp) (args : Args) (us : List Value) (vs : List V) (Q : VK) (E : XK), Room k A → A.guards = some [] → Env0 P w K mg base A outer s H → BindsTo s fd args (ps.zip us) → Vals vs us → sp vs H Q E →
    codeAny (model P w) A (.call (.ref f) args) (CR CX0 outer P w H s Q E) s
theorem okG {x qual : Str} {st : Stmt} {f : Addr} {fd : FuncData} {N ps : List Str} {k : Nat} {sp : Sp} (F : L2.Fun K x qual st f fd) (S : FnScope N ps (defScope st)) (len : ∀ vs H Q E, sp vs H Q E → vs.length = ps.length)
    (hbody : ∀ (cdv : Value) (A : Around) (outer : List Env) (s : Shared) (H : Hp) (vs : List V) (Q : VK) (E : XK), Room k (A.deeper (envOfC qual (defScope st) s.heap.objs.size f cdv)) → (A.deeper (envOfC qual (defScope st) s.heap.objs.size f cdv)).guards = some [] → sp vs H Q E →
      ∃ t, PSs (cxOf CX0 P w K mg base N qual (defScope st) f cdv A outer s H E).nox (defBody st) t ∧ t { nx := fun _ H' => Q .non H', rt := Q } (L2.start N vs) H) : FnOkG P w K mg base (k + 1) f fd ps sp := by
  obtain ⟨oc, od, kV, doc, pm, an, cdv, ct, osl, rfl, lk, hcd⟩ := F.ex
  refine ⟨len, fun A outer s H args us vs Q E hr hg e0 hb r hsp => ?_⟩
  refine run_ofS lk hcd S hr e0 hb r (len _ _ _ _ hsp) fun hr' => ?_
  obtain ⟨t, h, q⟩ := hbody cdv A outer s H vs Q E hr' hg hsp
  exact ⟨t, h.nox, q⟩
/-! ### what a turn needs -/
theorem tNext_of {D : Ends} {σ : L2.St} {H : Hp} (h : D.nx σ H) : tNext D σ H := h
theorem lst_upd {H : Hp} {p b : Addr} {c l : List V} (h : H b = some (.lst c)) : ∃ c', (upd H p (.lst l)) b = some (.lst c') := by
  by_cases e : b = p
  · subst e
    exact ⟨l, upd_same⟩
  · exact ⟨c, by rw [upd_ne e]; exact h⟩
theorem Sm.at {T : List NTab} {H H' : Hp} {p : Addr} {l l' : List V} (s : Sm T H H') (h : H p = none) (h2 : H' p = some (.lst l)) : Sm T H (upd H' p (.lst l')) :=
  ⟨fun b o e n => by rw [upd_ne (ne_of_none e h)]; exact s.kp b o e n, fun b e => s.nn b (upd_none e), fun t => tabs_upd h2 (by intro _ z; cases z) (by intro _ z; cases z) (s.tb t)⟩
theorem kp_tabs {T : List NTab} {d L C : Addr} {H H' : Hp} (D : Dr H d L C) (k : Kp d L H H') (t : TabsN T H) : TabsN T H' := fun p hp => by
  obtain ⟨ps, a1, a2, a3⟩ := t p hp
  obtain ⟨_, _, _, _, _, D⟩ := D
  refine ⟨ps, k _ _ a1 (ne_of a1 D.hd (by intro z; cases z)) (ne_of a1 D.hL (by intro z; cases z)), a2, fun p' cv hc => ?_⟩
  obtain ⟨c, e1, e2⟩ := a3 p' cv hc
  exact ⟨c, e1, k _ _ e2 (ne_of e2 D.hd (by intro z; cases z)) (ne_of e2 D.hL (by intro z; cases z))⟩
theorem Dr.sm {T : List NTab} {d L C : Addr} {H H' : Hp} (D : Dr H d L C) (s : Sm T H H') : Dr H' d L C := by
  obtain ⟨ls, cs, r, t, m, D⟩ := D
  exact ⟨ls, cs, r, t, m, { D with hd := s.lst D.hd (by intro _ z; cases z), hL := s.lst D.hL (by intro _ z; cases z), hC := s.lst D.hC (by intro _ z; cases z) }⟩
section
variable {K : PySem.W.Frag} {T : List NTab} {d L C : Addr} {H H' : Hp} {m x : Addr} {ps : List (Str × Str)} {cs : List (Str × List Str)} {gs : List G} {tp : Str}
theorem M4.sm (h : M4 K d L H m ps cs gs tp) (s : Sm T H H') : M4 K d L H' m ps cs gs tp := by
  obtain ⟨pa, ca, ga, xs, zs, ys, hm, h1, e1, h2, e2, h3, e3, n⟩ := h.ex
  exact ⟨pa, ca, ga, xs, zs, ys, s.lst hm (by intro _ z; cases z), s.lst h1 (by intro _ z; cases z), e1.imp fun _ _ r => PartAt.kt s.kt r, s.lst h2 (by intro _ z; cases z), e2.imp fun _ _ r => CauseAt.kt s.kt r, s.lst h3 (by intro _ z; cases z), e3.imp fun _ _ r => GateAt.kt s.kt r, n⟩
theorem M4.kp {Cc : Addr} (h : M4 K d L H m ps cs gs tp) (D : Dr H d L Cc) (k : Kp d L H H') : M4 K d L H' m ps cs gs tp := by
  obtain ⟨pa, ca, ga, xs, zs, ys, hm, h1, e1, h2, e2, h3, e3, n0, n1, n2, n3⟩ := h.ex
  have mL : m ≠ L := by
    obtain ⟨_, _, _, _, _, D⟩ := D
    exact ne_of hm D.hL (by intro z; cases z)
  exact ⟨pa, ca, ga, xs, zs, ys, k _ _ hm n0 mL, k.lst D n1 h1, e1.imp fun _ _ r => PartAt.kt (k.kt D) r, k.lst D n2 h2, e2.imp fun _ _ r => CauseAt.kt (k.kt D) r, k.lst D n3 h3, e3.imp fun _ _ r => GateAt.kt (k.kt D) r, n0, n1, n2, n3⟩
theorem PlObj.sm (h : PlObj K C H x ps gs cs tp) (s : Sm T H H') : PlObj K C H' x ps gs cs tp := h.kt s.kt fun _ _ _ e => s.lst e (by intro _ z; cases z)
theorem PlObj.kp {Cc : Addr} (h : PlObj K C H x ps gs cs tp) (D : Dr H d L Cc) (k : Kp d L H H') : PlObj K C H' x ps gs cs tp := h.kt (k.kt D) fun _ _ _ e => by
  obtain ⟨_, _, _, _, _, D⟩ := D
  exact k _ _ e (ne_of e D.hd (by intro z; cases z)) (ne_of e D.hL (by intro z; cases z))
theorem PlObj.lset (h : PlObj K C H x ps gs cs tp) {a : Addr} {l l' : List V} (ha : H a = some (.lst l)) : PlObj K C (upd H a (.lst l')) x ps gs cs tp := h.kt (kt_lst ha) fun _ _ _ e => by
  rw [upd_ne (ne_of e ha (by intro z; cases z))]
  exact e
/-- a plant is made -/
theorem init_made {Q : VK} {E : XK} {a b c dx : Addr} {xs ys zs : List V} (nx : H x = none) (ndx : H dx = none) (ha : Sq K H a xs) (e1 : Each (PartAt K H) xs ps) (hb : Sq K H b ys) (e2 : Each (GateAt K H) ys gs) (hc : Sq K H c zs) (e3 : Each (CauseAt K H) zs cs) (ok : PlantOk ps gs cs tp) (hT : TabsN T H)
    (q : ∀ H', Sm T H H' → PlObj K C H' x ps gs cs tp → Q .non H') : spInit K C T [.ref x, .ref a, .ref b, .ref c, .str tp] (upd (upd H dx (.own x)) x (.ins C dx [])) Q E := by
  have s1 : Same H (upd (upd H dx (.own x)) x (.ins C dx [])) := fun b o e => by
    rw [upd_ne (ne_of_none e nx), upd_ne (ne_of_none e ndx)]
    exact e
  refine ⟨x, dx, a, xs, ps, b, ys, gs, c, zs, cs, tp, rfl, upd_same, Same.sq s1 ha, e1.imp fun _ _ r => PartAt.kt (Same.kt s1) r, Same.sq s1 hb, e2.imp fun _ _ r => GateAt.kt (Same.kt s1) r, Same.sq s1 hc, e3.imp fun _ _ r => CauseAt.kt (Same.kt s1) r, ok, hT.ext s1, fun H' pa' ga' ca' sx hx t1 t2 t3 => ?_⟩
  have sm : Sm T H H' := ⟨fun b o e n => sx.kp b o (s1 _ _ e) n (ne_of_none e nx), fun b e => s1.free (sx.nn b e), fun t => sx.tb (t.ext s1)⟩
  exact q H' sm ⟨dx, pa', ga', ca', xs, ys, zs, hx, t1, e1.imp fun _ _ r => PartAt.kt sm.kt r, t2, e2.imp fun _ _ r => GateAt.kt sm.kt r, t3, e3.imp fun _ _ r => CauseAt.kt sm.kt r⟩
/-- types that are no plants -/
structure PlNo (K : PySem.W.Frag) (C : Addr) : Prop where
  no : ∀ t ∈ ([.type "NoneType", .type "int", .type "str", .type "tuple", .type "list"] : List Value), PySem.W.notFirst K C t = true ∧ PySem.W.kitOne K t (.ref C) = some false
  own : PySem.W.notFirst K C (.ref C) = true
theorem PlObj.ty (h : PlObj K C H x ps gs cs tp) (c : Cls K C) (Lk : PlK K C) : TyX K H (.ref x) (.ref C) := by
  obtain ⟨dx, pa, ga, ca, xs, ys, zs, h0, _⟩ := h.ex
  exact .base (.ins h0 c Lk.ha Lk.hn Lk.ht Lk.hm)
theorem eqPl_self (ok : PlantOk ps gs cs tp) : eqPl ps gs cs tp ps gs cs tp = true := by
  rw [← eqv_plant]
  exact SeqAt.eqv_refl _ ok.shapes.plant.can
/-- made == other, both plants -/
theorem cmp_pl {neg : Bool} {y : Addr} {ps' : List (Str × Str)} {gs' : List G} {cs' : List (Str × List Str)} {tp' : Str} {Q : VK} (N : PlNo K C) (c : Cls K C) (Lk : PlK K C) (h : PlObj K C H x ps gs cs tp) (ok : PlantOk ps gs cs tp) (h' : PlObj K C H y ps' gs' cs' tp') (ok' : PlantOk ps' gs' cs' tp')
    (q : Q (.bl (if neg then !eqPl ps gs cs tp ps' gs' cs' tp' else eqPl ps gs cs tp ps' gs' cs' tp')) H) : rCmpI K C (spEqP K C) neg (.ref x) (.ref y) H Q := by
  obtain ⟨dx, pa, ga, ca, xs, ys, zs, h0, _⟩ := h.ex
  exact ⟨x, dx, _, _, rfl, h0, h'.ty c Lk, N.own, x, .ref y, ps, gs, cs, tp, rfl, h, ok.shapes, .inl ⟨y, ps', gs', cs', tp', rfl, h', ok'.shapes, _, rfl, q⟩⟩
/-- made == other, the other no plant -/
theorem cmp_no {neg : Bool} {y : V} {t : Value} {Q : VK} (N : PlNo K C) (h : PlObj K C H x ps gs cs tp) (ok : PlantOk ps gs cs tp) (ty : TyX K H y t) (ht : t ∈ ([.type "NoneType", .type "int", .type "str", .type "tuple", .type "list"] : List Value)) (q : Q (.bl neg) H) : rCmpI K C (spEqP K C) neg (.ref x) y H Q := by
  obtain ⟨dx, pa, ga, ca, xs, ys, zs, h0, _⟩ := h.ex
  refine ⟨x, dx, _, t, rfl, h0, ty, (N.no t ht).1, x, y, ps, gs, cs, tp, rfl, h, ok.shapes, .inr ⟨t, ty, (N.no t ht).2, false, rfl, ?_⟩⟩
  cases neg <;> exact q
end
end
end Kf

set_option Elab.async false
set_option linter.all false
set_option maxRecDepth 100000
set_option maxHeartbeats 2000000
namespace Kf
open PySem PySem.Spec PyProof.Rows L2 LamX NdefX TL
section
variable {P : Program} {w : World} {K : PySem.W.Frag} {mg : Str → Option Value} {base : Heap}
def spLaw (K : PySem.W.Frag) (T0 : List NTab) : Sp := fun vs H Q _ => ∃ (a : Addr) (ns : List Int), vs = [.ref a] ∧ SqL K H a (ns.map V.int) ∧ ns.length ≤ 63 ∧ TabsN T0 H ∧ ∀ H', Q (.bl true) H'
theorem ok_law {f C fe : Addr} {fd fde : FuncData} {T0 : List NTab} (F : L2.Fun K "law" "law" s_law f fd) (T : Nm mg) (C__law_begin : Cal P w K mg base 1 "_law_begin" ["script"] (spBegin K)) (C__law_take : Cal P w K mg base 1 "_law_take" ["draw", "size"] spTake)
    (C__law_plant : Cal P w K mg base 5 "_law_plant" ["draw", "most_parts", "most_gates", "most_causes"] (spPlantL K)) (M : MakC P w K mg base 6 "Plant" C ["self", "parts", "gates", "causes", "top"] (spInit K C T0))
    (MK : MakK P w K mg base 6 "Plant" C ["self", "parts", "gates", "causes", "top"] ["top", "causes", "gates", "parts"] (spInit K C T0)) (C__law_told : Cal P w K mg base 3 "_law_told" ["made"] (spTold K C)) (C__law_tuples : Cal P w K mg base 1 "_law_tuples" ["m"] (spTuples K))
    (C__law_made : Cal P w K mg base 8 "_law_made" ["m"] (spMade K C T0)) (C__law_other : Cal P w K mg base 2 "_law_other" ["draw", "m"] (spOther K)) (O : OwnCmp K C fe) (be : Binds K fde ["self", "other"] []) (Fe : FnOk P w K mg base CX0 1 fe fde ["self", "other"] (spEqP K C)) (Lk : PlK K C) (L : PlC K mg C) (NP : PlNo K C) :
    FnOkG P w K mg base 9 f fd ["script"] (spLaw K T0) := by
  refine okG F sc_law (fun vs H Q E h => ?_) (fun cdv A outer s H vs Q E hr hg h => ?_)
  · obtain ⟨a, ns, rfl, _⟩ := h
    rfl
  · obtain ⟨a, ns, rfl, hA, hl, hT, q⟩ := h
    have hu := hu_of hr
    have hu64 := hr.units
    refine ⟨_, (pss_cons (ps_set (i := 1) sc_law.nd rfl (.inl rfl) (pe_cal C__law_begin (by decide) hr (by rfl) (pa_cons (pv 0) pa_nil)))
 (pss_cons (ps_for PassesOwn.never rfl (pi_range1 rfl T.n_range (pa_cons (pe_op op_add pe_int (pe_callB (call_min2 rfl) (by rfl) T.n_min (by decide +kernel) (pa_cons (pe_callB (call_lenK (K := K) rfl) (by rfl) T.n_len (by decide +kernel) (pa_cons (pv 0) pa_nil)) (pa_cons pe_int pa_nil)))) pa_nil)) (pg_name (i := 2) sc_law.nd rfl (.inl rfl))
 (pss_cons (ps_set (i := 3) sc_law.nd rfl (.inl rfl) (pe_cal C__law_plant (by decide) hr (by rfl) (pa_cons (pv 1) (pa_cons pe_int (pa_cons pe_int (pa_cons pe_int pa_nil))))))
 (pss_cons (ps_set (i := 4) sc_law.nd rfl (.inl rfl) (pe_lst (pa_cons (pe_callTy call_list_of (by rfl) T.n_list (by decide +kernel) (pa_cons (pe_dget hu (pv 3) pe_str (fun _ _ => rfl)) pa_nil)) (pa_cons (pe_callTy call_list_of (by rfl) T.n_list (by decide +kernel) (pa_cons (pe_dget hu (pv 3) pe_str (fun _ _ => rfl)) pa_nil)) (pa_cons (pe_callTy call_list_of (by rfl) T.n_list (by decide +kernel) (pa_cons (pe_dget hu (pv 3) pe_str (fun _ _ => rfl)) pa_nil)) pa_nil)))))
 (pss_cons (ps_set (i := 5) sc_law.nd rfl (.inr rfl) (pe_mak M (by decide) hr (by rfl) (pa_cons (pe_ix ix_list (pv 4) pe_int (fun _ _ => rfl)) (pa_cons (pe_ix ix_list (pv 4) pe_int (fun _ _ => rfl)) (pa_cons (pe_ix ix_list (pv 4) pe_int (fun _ _ => rfl)) (pa_cons (pe_dget hu (pv 3) pe_str (fun _ _ => rfl)) pa_nil))))))
 (pss_cons (ps_set (i := 6) sc_law.nd rfl (.inl rfl) (pe_makK MK (by decide) hr (by rfl) (pk_cons (pe_dget hu (pv 3) pe_str (fun _ _ => rfl)) (pk_cons (pe_callTy (call_tupQ (K := K) rfl) (by rfl) T.n_tuple (by decide +kernel) (pa_cons (pe_dget hu (pv 3) pe_str (fun _ _ => rfl)) pa_nil)) (pk_cons (pe_callTy (call_tupQ (K := K) rfl) (by rfl) T.n_tuple (by decide +kernel) (pa_cons (pe_dget hu (pv 3) pe_str (fun _ _ => rfl)) pa_nil)) (pk_cons (pe_callTy (call_tupQ (K := K) rfl) (by rfl) T.n_tuple (by decide +kernel) (pa_cons (pe_dget hu (pv 3) pe_str (fun _ _ => rfl)) pa_nil)) pk_nil))))))
 (pss_cons (ps_for PassesOwn.never rfl (pi_list (pv 4)) (pg_name (i := 7) sc_law.nd rfl (.inl rfl))
 (pss_one (ps_expr (pe_bm0 PySem.F.plainAttrs_list PySem.F.slot_list_clear PySem.F.type_list_clear mt_clear (pv 7)))))
 (pss_cons (ps_if (PW.pt (pw_or (pt_cmpR op_ne (pe_callB (call_reprD hg hr) (by rfl) T.n_repr (by decide +kernel) (pa_cons (pe_cal C__law_told (by decide) hr (by rfl) (pa_cons (pv 5) pa_nil)) pa_nil)) (pe_callB (call_reprD hg hr) (by rfl) T.n_repr (by decide +kernel) (pa_cons (pe_cal C__law_tuples (by decide) hr (by rfl) (pa_cons (pv 3) pa_nil)) pa_nil)) (nomark _)) (pw_or (pt_not (pt_cmpR (op_eqI (K := K) rfl O Fe be (hr.mono (by decide))) (pv 5) (pv 6) (nomark _))) (pw_or1 (pt_cmpR (op_neI (K := K) rfl O Fe be (hr.mono (by decide))) (pv 5) (pv 6) (nomark _))))))
 (pss_one (ps_ret pe_bl))
 pss_nil)
 (pss_cons (ps_if (pt_cmpR op_eq (pe_cal C__law_take (by decide) hr (by rfl) (pa_cons (pv 1) (pa_cons pe_int pa_nil))) pe_int (nomark _))
 (pss_cons (ps_dput hu (pv 3) pe_str (pe_op op_cat (pe_dget hu (pv 3) pe_str (fun _ _ => rfl)) (pe_lst (pa_cons (pe_tup (pa_cons pe_str (pa_cons pe_str (pa_cons (pe_tup (pa_cons (pe_ix (ix_sqK (K := K) rfl) (pe_ix ix_list (pe_dget hu (pv 3) pe_str (fun _ _ => rfl)) pe_int (fun _ _ => rfl)) pe_int (fun _ _ => rfl)) pa_nil)) pa_nil)))) pa_nil))) rfl)
 (pss_one (ps_set (i := 5) sc_law.nd rfl (.inr rfl) (pe_cal C__law_made (by decide) hr (by rfl) (pa_cons (pv 3) pa_nil)))))
 pss_nil)
 (pss_cons (ps_set (i := 8) sc_law.nd rfl (.inl rfl) (pe_cal C__law_other (by decide) hr (by rfl) (pa_cons (pv 1) (pa_cons (pv 3) pa_nil))))
 (pss_cons (ps_if (pt_cmpR op_ne (pe_cmpR (op_eqI (K := K) rfl O Fe be (hr.mono (by decide))) (pe_cal C__law_made (by decide) hr (by rfl) (pa_cons (pv 8) pa_nil)) (pv 5) (nomark _)) (pe_cmpR (op_eqD hu64) (pe_cal C__law_tuples (by decide) hr (by rfl) (pa_cons (pv 8) pa_nil)) (pe_cal C__law_tuples (by decide) hr (by rfl) (pa_cons (pv 3) pa_nil)) (nomark _)) (nomark _))
 (pss_one (ps_ret pe_bl))
 pss_nil)
 (pss_cons (ps_if (pt_cmpR op_eq (pe_cmpR (op_neI (K := K) rfl O Fe be (hr.mono (by decide))) (pe_cal C__law_made (by decide) hr (by rfl) (pa_cons (pv 8) pa_nil)) (pv 5) (nomark _)) (pe_cmpR (op_eqD hu64) (pe_cal C__law_tuples (by decide) hr (by rfl) (pa_cons (pv 8) pa_nil)) (pe_cal C__law_tuples (by decide) hr (by rfl) (pa_cons (pv 3) pa_nil)) (nomark _)) (nomark _))
 (pss_one (ps_ret pe_bl))
 pss_nil)
 (pss_one (ps_if (pt_cmpR (op_neD hu64) (pe_lc (own := [("one", 9)]) (g := gName 9) (by rfl) sc_law.nd (pi_list (pe_lst (pa_cons pe_non (pa_cons pe_int (pa_cons (pe_dget hu (pv 3) pe_str (fun _ _ => rfl)) (pa_cons (pe_cal C__law_tuples (by decide) hr (by rfl) (pa_cons (pv 3) pa_nil)) (pa_cons (pe_dget hu (pv 3) pe_str (fun _ _ => rfl)) pa_nil))))))) (blkOk_by (own := [("one", 9)]) (N := ["script", "draw", "turn", "m", "given", "made", "twin", "some", "n", "one"]) (sc := defScope s_law) (by decide +kernel)) (fun _ _ _ _ _ => pg_name (i := 9) sc_law.nd rfl (.inl rfl)) (fun _ _ _ _ _ => pts_one (PW.pt (pw_or (pt_cmpR (op_eqI (K := K) rfl O Fe be (hr.mono (by decide))) (pv 5) (pv 9) (nomark _)) (pw_or1 (pt_not (pt_cmpR (op_neI (K := K) rfl O Fe be (hr.mono (by decide))) (pv 5) (pv 9) (nomark _))))))) (fun _ _ _ _ _ => (pv 9))) (pe_lst pa_nil) (nomark _))
 (pss_one (ps_ret pe_bl))
 pss_nil)))))))))))))
 (pss_one (ps_ret pe_bl)))), ?_⟩
    refine ⟨.ref a, rfl, a, ns, rfl, hA, hl, fun H1 d L1 Cc D1 kp1 nd nL nC => ?_⟩
    obtain ⟨n, en, hn16⟩ : ∃ n : Nat, (4 + if (12 : Int) < ((ns.map V.int).length : Int) then (12 : Int) else ((ns.map V.int).length : Int)) = (n : Int) ∧ n ≤ 16 := ⟨4 + min ns.length 12, by rw [List.length_map]; split <;> omega, by omega⟩
    have hA1 : SqL K H1 a (ns.map V.int) := by
      rcases hA with (h | ⟨o, h⟩) | h
      · exact .inl (.inl (kp1 _ _ h))
      · exact .inl (.inr ⟨o, kp1 _ _ h⟩)
      · exact .inr h
    refine ⟨.ref a, rfl, a, _, rfl, .inl hA1, _, _, rfl, 4, _, rfl, rfl, n, by show [V.int (4 + _)] = _; rw [en], by omega, by omega, for_it (walk_range (lo := 0) (n := n)) (fun i σ H2 => ∃ y2 y3 y4 y5 y6 y7 y8 y9, σ = [some (.ref a), some (.ref d), y2, y3, y4, y5, y6, y7, y8, y9] ∧ Dr H2 d L1 Cc ∧ TabsN T0 H2)
      ⟨_, _, _, _, _, _, _, _, rfl, D1, hT.ext kp1⟩ (fun i σ H2 hi p => trivial) (fun i x σ H2 H3 hi p y => ?_) (fun σ H2 p => ?_)⟩
    · obtain ⟨y2, y3, y4, y5, y6, y7, y8, y9, rfl, D2, hT2⟩ := p
      obtain ⟨rfl, rfl⟩ := y
      refine ⟨.ref d, rfl, d, L1, Cc, 8, 7, 4, rfl, D2, by decide, by decide, by decide, by decide, by decide, fun H3 m ps cs gs tp D3 k3 nm hM ok gl wo => ?_⟩
      have hT3 := kp_tabs D2 k3 hT2
      obtain ⟨pa, ca, ga, xs, zs, ys, hm, hpa, hea, hca, hec, hga, heg, md, paL, caL, gaL⟩ := hM.ex
      -- given
      refine ⟨.ref m, rfl, m, .ref pa, rfl, gK hm mk4_p, pa, xs, rfl, .inl (.of hpa), fun l1 nl1 => ?_⟩
      have s1 := Same.new (o := .lst xs) nl1
      refine ⟨.ref m, rfl, m, .ref ga, rfl, gK (s1 _ _ hm) mk4_g, ga, ys, rfl, .inl (.of (s1 _ _ hga)), fun l2 nl2 => ?_⟩
      have s2 := s1.trans (Same.new (o := .lst ys) nl2)
      refine ⟨.ref m, rfl, m, .ref ca, rfl, gK (s2 _ _ hm) mk4_c, ca, zs, rfl, .inl (.of (s2 _ _ hca)), fun l3 nl3 => ?_⟩
      have s3 := s2.trans (Same.new (o := .lst zs) nl3)
      refine ⟨by show 3 ≤ sizeLine; decide, fun gv ngv => ?_⟩
      have r2 := Same.new (o := .lst ys) nl2
      have r3 := Same.new (o := .lst zs) nl3
      have r4 := Same.new (o := .lst [.ref l1, .ref l2, .ref l3]) ngv
      have s4 := s3.trans r4
      have hl1 := (r2.trans (r3.trans r4)) _ _ (upd_same (H := H3) (a := l1) (o := .lst xs))
      have hl2 := (r3.trans r4) _ _ (upd_same (a := l2) (o := .lst ys))
      have hl3 := r4 _ _ (upd_same (a := l3) (o := .lst zs))
      have hgv := upd_same (H := upd (upd (upd H3 l1 (.lst xs)) l2 (.lst ys)) l3 (.lst zs)) (a := gv) (o := .lst [.ref l1, .ref l2, .ref l3])
      have g1 : l1 ≠ gv := ne_of_none ((r2.trans r3) _ _ (upd_same (H := H3) (a := l1) (o := .lst xs))) ngv
      have g2 : l2 ≠ gv := ne_of_none (r3 _ _ (upd_same (a := l2) (o := .lst ys))) ngv
      have g3 : l3 ≠ gv := ne_of_none (upd_same (a := l3) (o := .lst zs)) ngv
      have f2 := s1.free nl2
      have f3 := s2.free nl3
      obtain ⟨H4, eH4⟩ : ∃ H4, H4 = upd (upd (upd (upd H3 l1 (.lst xs)) l2 (.lst ys)) l3 (.lst zs)) gv (.lst [.ref l1, .ref l2, .ref l3]) := ⟨_, rfl⟩
      rw [← eH4] at s4 hl1 hl2 hl3 hgv ⊢
      have hm4 := s4 _ _ hm
      have hT4 := hT3.ext s4
      -- made
      refine ⟨.ref gv, rfl, gv, _, 0, .ref l1, rfl, rfl, .of hgv, at0, .ref gv, rfl, gv, _, 1, .ref l2, rfl, rfl, .of hgv, at1, .ref gv, rfl, gv, _, 2, .ref l3, rfl, rfl, .of hgv, at2, .ref m, rfl, m, .str tp, rfl, gK hm4 mk4_t, fun x5 dx5 nx5 ndx5 _ => ?_⟩
      refine init_made nx5 ndx5 (.inl (.of hl1)) (hea.imp fun _ _ r => PartAt.kt (Same.kt s4) r) (.inl (.of hl2)) (heg.imp fun _ _ r => GateAt.kt (Same.kt s4) r) (.inl (.of hl3)) (hec.imp fun _ _ r => CauseAt.kt (Same.kt s4) r) ok hT4 fun H5 sm5 hP5 => ⟨rfl, ?_⟩
      have sm35 := (Same.sm (T := T0) s4).trans sm5
      have M5 := hM.sm sm35
      obtain ⟨pa5, ca5, ga5, xs5, zs5, ys5, hm5, hpa5, hea5, hca5, hec5, hga5, heg5, _⟩ := M5.ex
      -- twin
      refine ⟨.ref m, rfl, m, .str tp, rfl, gK hm5 mk4_t, .ref m, rfl, m, .ref ca5, rfl, gK hm5 mk4_c, ca5, zs5, rfl, .inl (.of hca5), fun tc H6 s6 htc => ?_⟩
      refine ⟨.ref m, rfl, m, .ref ga5, rfl, gK (s6 _ _ hm5) mk4_g, ga5, ys5, rfl, .inl (.of (s6 _ _ hga5)), fun tg H7 s7 htg => ?_⟩
      have s67 := s6.trans s7
      refine ⟨.ref m, rfl, m, .ref pa5, rfl, gK (s67 _ _ hm5) mk4_p, pa5, xs5, rfl, .inl (.of (s67 _ _ hpa5)), fun tpp H8 s8 htp => ?_⟩
      have s68 := s67.trans s8
      have hT8 := (sm5.tb hT4).ext s68
      refine ⟨rfl, rfl, fun x9 dx9 nx9 ndx9 _ => ?_⟩
      refine init_made nx9 ndx9 (.inr htp) (hea5.imp fun _ _ r => PartAt.kt (Same.kt s68) r) (.inr (Same.sqt s8 htg)) (heg5.imp fun _ _ r => GateAt.kt (Same.kt s68) r) (.inr (Same.sqt (s7.trans s8) htc)) (hec5.imp fun _ _ r => CauseAt.kt (Same.kt s68) r) ok hT8 fun H9 sm9 hQ9 => ⟨rfl, ?_⟩
      have sm59 := (Same.sm (T := T0) s68).trans sm9
      have sm39 := sm35.trans sm59
      have hP9 := hP5.sm sm59
      have sm49 := sm5.trans sm59
      have hgv9 := sm49.lst hgv (by intro _ z; cases z)
      -- the lists are cleared
      refine ⟨.ref gv, rfl, gv, rfl, ⟨_, .of hgv9⟩, for_it (walk_list (xs := [.ref l1, .ref l2, .ref l3])) (fun j σ Hx => ∃ y7, σ = [some (.ref a), some (.ref d), some (.int (0 + (i : Int))), some (.ref m), some (.ref gv), some (.ref x5), some (.ref x9), y7, y8, y9] ∧ Sm T0 H3 Hx ∧ PlObj K C Hx x5 ps gs cs tp ∧ PlObj K C Hx x9 ps gs cs tp ∧
          Hx gv = some (.lst [.ref l1, .ref l2, .ref l3]) ∧ ∃ c1 c2 c3, Hx l1 = some (.lst c1) ∧ Hx l2 = some (.lst c2) ∧ Hx l3 = some (.lst c3))
        ⟨_, rfl, sm39, hP9, hQ9, hgv9, _, _, _, sm49.lst hl1 (by intro _ z; cases z), sm49.lst hl2 (by intro _ z; cases z), sm49.lst hl3 (by intro _ z; cases z)⟩ (fun j σ Hx hj p => ?_) (fun j x σ Hx Hy hj p y => ?_) (fun σ Hx p => ?_)⟩
      · obtain ⟨_, _, _, _, _, hg, _⟩ := p
        exact .of hg
      · obtain ⟨y7, rfl, smx, hPx, hQx, hgx, c1, c2, c3, q1, q2, q3⟩ := p
        obtain ⟨rfl, hx⟩ := y
        obtain ⟨l, c, rfl, fl, gl, ql⟩ : ∃ l c, x = .ref l ∧ H3 l = none ∧ gv ≠ l ∧ Hy l = some (.lst c) := by
          have h3 : j = 0 ∨ j = 1 ∨ j = 2 := by
            have : j < 3 := hj
            omega
          rcases h3 with rfl | rfl | rfl
          · cases hx
            exact ⟨l1, _, rfl, nl1, g1.symm, q1⟩
          · cases hx
            exact ⟨l2, _, rfl, f2, g2.symm, q2⟩
          · cases hx
            exact ⟨l3, _, rfl, f3, g3.symm, q3⟩
        refine ⟨.ref l, rfl, .inl ⟨rfl, _, .of ql⟩, l, _, rfl, rfl, ql, ?_⟩
        obtain ⟨d1, z1⟩ := lst_upd (p := l) (l := []) q1
        obtain ⟨d2, z2⟩ := lst_upd (p := l) (l := []) q2
        obtain ⟨d3, z3⟩ := lst_upd (p := l) (l := []) q3
        exact ⟨_, rfl, smx.at fl ql, hPx.lset ql, hQx.lset ql, by rw [upd_ne gl]; exact hgx, d1, d2, d3, z1, z2, z3⟩
      obtain ⟨y7, rfl, smx, hPx, hQx, _, _⟩ := p
      have hTx := smx.tb hT3
      have Dx := D3.sm smx
      have Mx := hM.sm smx
      have hsh := ok.rp.sh
      have hcan := ok.shapes.plant.can
      have hdep : (plantD ps gs cs tp).depth ≤ 100 := Nat.le_trans ok.shapes.plant.dep (by decide)
      have hfit := ok.rp.fits (by decide) hcan
      refine ⟨.ref x5, rfl, x5, ps, gs, cs, tp, rfl, hPx, fun H10 p1 s10 hp1 => ⟨p1, plantD ps gs cs tp, rfl, hp1.dp, hsh, hcan, hdep, hfit, ?_⟩⟩
      have M10 := Mx.sm (Same.sm (T := T0) s10)
      refine ⟨.ref m, rfl, m, ps, cs, gs, tp, rfl, M10.mx, fun H11 p2 s11 hp2 => ⟨p2, plantD ps gs cs tp, rfl, hp2.dp, hsh, hcan, hdep, hfit, ?_⟩⟩
      have s1011 := s10.trans s11
      have hP11 := hPx.sm (Same.sm (T := T0) s1011)
      have hQ11 := hQx.sm (Same.sm (T := T0) s1011)
      refine ⟨rfl, _, rfl, iteBf (by simp) ?_⟩
      refine ⟨.ref x5, rfl, .ref x9, rfl, cmp_pl NP L.cl Lk hP11 ok hQ11 ok ?_⟩
      rw [eqPl_self ok]
      refine ⟨true, rfl, iteBf rfl ?_⟩
      refine ⟨.ref x5, rfl, .ref x9, rfl, cmp_pl NP L.cl Lk hP11 ok hQ11 ok ?_⟩
      rw [eqPl_self ok]
      refine ⟨false, rfl, iteBf rfl (tNext_of ?_)⟩
      dsimp only
      have D11 := Dx.same s1011
      have T11 := hTx.ext s1011
      have M11 := Mx.sm (Same.sm (T := T0) s1011)
      have hW : WP ps gs cs tp := ⟨ok, gl, wo⟩
      refine seq_of (fun σ' H' => ∃ gs' x' y7', σ' = [some (.ref a), some (.ref d), some (.int (0 + (i : Int))), some (.ref m), some (.ref gv), some (.ref x'), some (.ref x9), y7', y8, y9] ∧ Dr H' d L1 Cc ∧ TabsN T0 H' ∧ M4 K d L1 H' m ps cs gs' tp ∧ PlObj K C H' x' ps gs' cs tp ∧ PlantOk ps gs' cs tp ∧ (gs' = gs ∨ ∃ p, ps[0]? = some p ∧ gs' = gs ++ [anyQ p.1])) (fun σ' H' p => ?_) (fun fin => ?_)
      rotate_left
      · refine ⟨.ref d, rfl, d, L1, Cc, 3, rfl, D11, by decide, by decide, fun H12 k D12 k12 k0 k3 => ⟨rfl, _, rfl, ?_⟩⟩
        have T12 := kp_tabs D11 k12 T11
        have M12 := M11.kp D11 k12
        have hP12 := hP11.kp D11 k12
        refine ite2 (fun e => ?_) (fun e => ?_)
        · obtain ⟨pb, cb, gb, xb, zb, yb, bm, bpa, bea, bca, bec, bga, beg, bmd, bpL, bcL, bgL⟩ := M12.ex
          have hpl := ok.parts.hi
          have hpl1 := ok.parts.lo
          have hbl := bea.1
          have hgb := beg.1
          obtain ⟨x0, hx0⟩ : ∃ x, xb[0]? = some x := ⟨xb[0]'(by omega), List.getElem?_eq_getElem _⟩
          obtain ⟨q0, hq0, t, rfl, htt⟩ := bea.2 0 x0 hx0
          refine ⟨.ref m, rfl, m, .ref gb, rfl, gK bm mk4_g, .ref m, rfl, m, .ref pb, rfl, gK bm mk4_p, pb, xb, 0, .ref t, rfl, rfl, .of bpa, atI_nat (j := 0) hx0, t, _, 0, .str q0.1, rfl, rfl, .inr htt, at0, by show 1 ≤ sizeLine; decide, fun t1 nt1 => ⟨by show 3 ≤ sizeLine; decide, fun t2 nt2 => ⟨by show 1 ≤ sizeLine; decide, fun q2 nq2 => ?_⟩⟩⟩
          have z2 := Same.new (o := .tup [.str q0.1]) nt1
          have z3 := Same.new (o := .tup [.str qS, .str "any", .ref t1]) nt2
          have z4 := Same.new (o := .lst [.ref t2]) nq2
          have z234 := z2.trans (z3.trans z4)
          refine ⟨gb, q2, _, _, rfl, rfl, z234 _ _ bga, upd_same, by rw [sizeLine_eq]; simp only [List.length_cons, List.length_nil]; omega, fun q3 nq3 => ?_⟩
          have z5 := Same.new (o := .lst (yb ++ [.ref t2])) nq3
          have zz := z234.trans z5
          have D14 := D12.same zz
          have q3L := (D12.same z234).neL nq3
          have bm2 := zz _ _ bm
          refine ⟨.ref m, rfl, m, _, rfl, DPut.k (k := .inr "gates") bm2 (small1000 (by show 4 ≤ 1000; decide)), ?_⟩
          rw [put4_g]
          have mL : m ≠ L1 := by
            obtain ⟨_, _, _, _, _, D'⟩ := D14
            exact ne_of bm2 D'.hL (by intro z; cases z)
          have mC : m ≠ Cc := by
            obtain ⟨_, _, _, _, _, D'⟩ := D14
            exact ne_of bm2 D'.hC (by intro z; cases z)
          have ktm := kt_dk (K := K) (o := .dK (mkv4 pb cb q3 (.str tp))) bm2
          have kz := (Same.kt (K := K) zz).trans ktm
          have ok14 := hW.snoc hq0 (tp' := tp) (.inl rfl)
          have m3 : q3 ≠ m := (ne_of_none (z234 _ _ bm) nq3).symm
          have M14 : M4 K d L1 _ m ps cs (gs ++ [anyQ q0.1]) tp := ⟨pb, cb, q3, xb, zb, yb ++ [.ref t2], upd_same, by rw [upd_ne (ne_of (zz _ _ bpa) bm2 (by intro z; cases z))]; exact zz _ _ bpa, bea.imp fun _ _ r => PartAt.kt kz r, by rw [upd_ne (ne_of (zz _ _ bca) bm2 (by intro z; cases z))]; exact zz _ _ bca, bec.imp fun _ _ r => CauseAt.kt kz r,
            by rw [upd_ne m3]; exact upd_same, (beg.imp fun _ _ r => GateAt.kt kz r).app (.one ⟨t2, t1, rfl, ktm _ _ (Same.sqt (z4.trans z5) (.of upd_same)), ktm _ _ (Same.sqt (z3.trans (z4.trans z5)) (.of upd_same))⟩), bmd, bpL, bcL, q3L.1⟩
          have D15 := D14.wr bmd mL mC (o := .dK (mkv4 pb cb q3 (.str tp)))
          have T15 := tabs_upd (o' := .dK (mkv4 pb cb q3 (.str tp))) bm2 (by intro _ z; cases z) (by intro _ z; cases z) (T12.ext zz)
          exact ⟨.ref m, rfl, m, ps, cs, gs ++ [anyQ q0.1], tp, rfl, M14.mx, ok14, T15, fun H16 x16 sm16 nx16 hP16 => fin _ _ ⟨gs ++ [anyQ q0.1], x16, _, rfl, D15.sm sm16, sm16.tb T15, M14.sm sm16, hP16, ok14, .inr ⟨q0, hq0, rfl⟩⟩⟩
        · exact fin _ _ ⟨gs, x5, _, rfl, D12, T12, M12, hP12, ok, .inl rfl⟩
      · obtain ⟨gs', x', y7', rfl, D13, T13, M13, hP13, ok13, hgs⟩ := p
        refine ⟨.ref d, rfl, .ref m, rfl, d, L1, Cc, m, ps, cs, gs, gs', tp, rfl, D13, M13, hW, hgs, fun H14 nn ps2 cs2 gs2 tp2 D14 k14 MX14 ok14 => ?_⟩
        have T14 := kp_tabs D13 k14 T13
        have M14 := M13.kp D13 k14
        have hP14 := hP13.kp D13 k14
        -- the first test
        refine ⟨.ref nn, rfl, nn, ps2, cs2, gs2, tp2, rfl, MX14, ok14, T14, fun H15 x15 sm15 nx15 hP15 => ⟨.ref x', rfl, cmp_pl NP L.cl Lk hP15 ok14 (hP14.sm sm15) ok13 ?_⟩⟩
        have sh2 := ok14.shapes.plant.shaped (by decide)
        have sh1 := ok13.shapes.plant.shaped (by decide)
        refine ⟨.ref nn, rfl, nn, ps2, cs2, gs2, tp2, rfl, MX14.sm sm15, fun H16 p3 s16 hp3 => ⟨.ref m, rfl, m, ps, cs, gs', tp, rfl, ((M14.sm sm15).sm (Same.sm (T := T0) s16)).mx, fun H17 p4 s17 hp4 => ⟨_, _, (hp3.kt (Same.kt s17)).dp, hp4.dp, sh2, sh1, ?_⟩⟩⟩
        rw [eqv_plant]
        refine ⟨rfl, _, rfl, iteBf (by simp) (tNext_of ?_)⟩
        have sm17 := sm15.trans ((Same.sm (T := T0) s16).trans (Same.sm s17))
        have D17 := D14.sm sm17
        have T17 := sm17.tb T14
        have M17 := M14.sm sm17
        have hP17 := hP14.sm sm17
        have MX17 := MX14.sm sm17
        -- the second test
        refine ⟨.ref nn, rfl, nn, ps2, cs2, gs2, tp2, rfl, MX17, ok14, T17, fun H18 x18 sm18 nx18 hP18 => ⟨.ref x', rfl, cmp_pl NP L.cl Lk hP18 ok14 (hP17.sm sm18) ok13 ?_⟩⟩
        refine ⟨.ref nn, rfl, nn, ps2, cs2, gs2, tp2, rfl, MX17.sm sm18, fun H19 p5 s19 hp5 => ⟨.ref m, rfl, m, ps, cs, gs', tp, rfl, ((M17.sm sm18).sm (Same.sm (T := T0) s19)).mx, fun H20 p6 s20 hp6 => ⟨_, _, (hp5.kt (Same.kt s20)).dp, hp6.dp, sh2, sh1, ?_⟩⟩⟩
        rw [eqv_plant]
        refine ⟨rfl, _, rfl, iteBf (by cases eqPl ps2 gs2 cs2 tp2 ps gs' cs tp <;> rfl) (tNext_of ?_)⟩
        have sm20 := sm18.trans ((Same.sm (T := T0) s19).trans (Same.sm s20))
        have D20 := D17.sm sm20
        have T20 := sm20.tb T17
        have M20 := M17.sm sm20
        have hP20 := hP17.sm sm20
        obtain ⟨pc, cc, gc, xc, zc, yc, cm, cpa, cea, cca, cec, cga, ceg, cmd, cpL, ccL, cgL⟩ := M20.ex
        -- other things
        refine ⟨.ref m, rfl, m, .str tp, rfl, gK cm mk4_t, .ref m, rfl, m, ps, cs, gs', tp, rfl, M20.mx, fun H21 p7 s21 hp7 => ?_⟩
        refine ⟨.ref m, rfl, m, .ref pc, rfl, gK (s21 _ _ cm) mk4_p, by show 5 ≤ sizeLine; decide, fun q5 nq5 => ⟨q5, rfl, ⟨_, .of upd_same⟩, fun r5 nr5 => ?_⟩⟩
        have s22 := Same.new (o := .lst [.non, .int 0, .str tp, .ref p7, .ref pc]) nq5
        have h22 := upd_same (H := H21) (a := q5) (o := .lst [.non, .int 0, .str tp, .ref p7, .ref pc])
        obtain ⟨H22, e22⟩ : ∃ H22, H22 = upd H21 q5 (.lst [.non, .int 0, .str tp, .ref p7, .ref pc]) := ⟨_, rfl⟩
        rw [← e22] at s22 h22 nr5 ⊢
        have s2122 := s21.trans s22
        have hP22 := hP20.sm (Same.sm (T := T0) s2122)
        have hp7' := hp7.kt (Same.kt s22)
        have cpa22 := s2122 _ _ cpa
        refine lc_it (walk_list (xs := [.non, .int 0, .str tp, .ref p7, .ref pc])) (LP H22 r5 fun _ => []) (LP.zero nr5 rfl) (fun _ _ _ p => .of (p.sm _ _ h22)) (fun j x H23 H24 hj p y => ?_) (fun H23 p => ?_)
        · obtain ⟨rfl, hx⟩ := y
          obtain ⟨t, ty, ht⟩ : ∃ t, TyX K H24 x t ∧ t ∈ ([.type "NoneType", .type "int", .type "str", .type "tuple", .type "list"] : List Value) := by
            have h5 : j = 0 ∨ j = 1 ∨ j = 2 ∨ j = 3 ∨ j = 4 := by
              have : j < 5 := hj
              omega
            rcases h5 with rfl | rfl | rfl | rfl | rfl
            · cases hx
              exact ⟨_, .base .non, by simp⟩
            · cases hx
              exact ⟨_, .base (.int 0), by simp⟩
            · cases hx
              exact ⟨_, .base (.str tp), by simp⟩
            · cases hx
              obtain ⟨_, _, _, _, _, _, h0, _⟩ := hp7'.ex
              exact ⟨_, ty_tup (Same.sqt p.sm h0), by simp⟩
            · cases hx
              exact ⟨_, .base (.lst (p.sm _ _ cpa22)), by simp⟩
          have hPj := hP22.sm (Same.sm (T := T0) p.sm)
          refine ⟨rfl, .ref x', rfl, x, rfl, cmp_no NP hPj ok13 ty ht ⟨false, rfl, iteBf rfl ?_⟩⟩
          refine ⟨.ref x', rfl, x, rfl, cmp_no NP hPj ok13 ty ht ⟨true, rfl, iteBf rfl ?_⟩⟩
          exact p.skip (Same.refl _) rfl
        · refine ⟨Nat.zero_le _, fun e5 ne5 => ?_⟩
          have h23 : H23 r5 = some (.lst []) := p.at_
          have s24 := Same.new (o := .lst []) ne5
          refine ⟨.list [], .list [], .lst (.of (s24 _ _ h23)) .nil, .lst (.of upd_same) .nil, rfl, rfl, _, rfl, iteBf rfl (tNext_of ?_)⟩
          have s2024 := s2122.trans (p.sm.trans s24)
          exact ⟨_, _, _, _, _, _, _, _, rfl, D20.same s2024, T20.ext s2024⟩
    · obtain ⟨y2, y3, y4, y5, y6, y7, y8, y9, rfl, D2, hT2⟩ := p
      exact q H2
end
end Kf

set_option Elab.async false
set_option linter.all false
set_option maxRecDepth 100000
set_option maxHeartbeats 2000000
namespace Kf
open PySem PySem.Spec PyProof.Rows L2 LamX NdefX TL
/-! ## the end: law is called where no guard stands -/
abbrev nilTab : Obj := ⟨.none, none, .fields #[], #[]⟩
/-- tracked at first: the script, if it is no object of the frame, and the tables -/
def hp0 (ts : List Addr) (a : Addr) (own : Option HO) : Hp := fun b => if b = a then own else if b ∈ ts then some (.tbl #[]) else none
section
variable {ts : List Addr} {a b : Addr} {own : Option HO}
theorem hp0_a : hp0 ts a own a = own := if_pos rfl
theorem hp0_t (h : b ∈ ts) (n : b ≠ a) : hp0 ts a own b = some (.tbl #[]) := (if_neg n).trans (if_pos h)
theorem hp0_at {u : HO} (h : hp0 ts a own b = some u) : (b = a ∧ own = some u) ∨ (b ≠ a ∧ b ∈ ts ∧ u = .tbl #[]) := by
  unfold hp0 at h
  split at h
  · rename_i e
    exact .inl ⟨e, h⟩
  · rename_i e
    split at h
    · rename_i m
      exact .inr ⟨e, m, (Option.some.inj h).symm⟩
    · cases h
theorem hp0_some (h : hp0 ts a own b ≠ none) : (b = a ∧ own ≠ none) ∨ (b ≠ a ∧ b ∈ ts) := by
  cases e : hp0 ts a own b with
  | none => exact absurd e h
  | some u =>
    rcases hp0_at e with ⟨e1, e2⟩ | ⟨e1, e2, _⟩
    · exact .inl ⟨e1, by rw [e2]; exact Option.some_ne_none u⟩
    · exact .inr ⟨e1, e2⟩
end
/-- what the law's proof gives to the end -/
def GiveG (l : PySem.W.OpenLaw) (w : World) (K : PySem.W.Frag) (k n : Nat) (x : Str) (mg : Str → Option Value) (fa : Addr) (h : Heap) : Prop :=
  ∃ (fd : FuncData) (ct : List (Addr × Addr)) (sp : Sp),
    (∀ q ∈ ct, PySem.W.CodeHd h q.1 q.2 ∧ h.get? q.2 = some { cls := .none, data := .fields #[] } ∧ K.lookup q.2 = none) ∧
    (∀ (st : Shared) (u : Value), BindsTo st fd ⟨[u], []⟩ [(x, u)]) ∧
    (∀ base : Heap, base.Ns mainGlobals mg → K.In base → (∀ q ∈ ct, TabB base mg q.1 q.2) → FnOkG l.prog w K mg base k fa fd [x] sp) ∧
    ∀ (H : Hp) (a : Addr) (ns : List Int), SqL K H a (ns.map V.int) → ns.length ≤ n → (∀ q ∈ ct, H q.2 = some (.tbl #[])) → sp [.ref a] H (fun v _ => v = .bl true) fun _ _ _ => False
theorem walkG {l : PySem.W.OpenLaw} {n k : Nat} {q : Program} {loose : List Str} {XP : (Str → Option Value) → Heap → Prop} {YP : World → Heap → Prop} {d : DefRec} {Kf : Params → PySem.W.Frag} {x : Str} (hdf : d.params.defaults = []) (hn : l.most = some n) (hn2 : n ≤ sizeLine) (hr : Room k callerA)
    (hY : ∀ (w : World) (h : Heap), YP w h → (Kf w.params).In h) (give : ∀ (w : World) (mg : Str → Option Value) (fa : Addr) (h : Heap), YP w h → h.Ns mainGlobals mg → mg d.name = some (.ref fa) → GiveG l w (Kf w.params) k n x mg fa h) :
    PySem.W.WalkO q loose XP YP l.row.toRowW d [] (fun f vs => PySem.call f vs) := by
  refine Att.attach_callB hn hdf fun w s₀ s₁ mg mb fa o pm cd doc a vs ns G Y ho hd hcd hmg scr hall hlen hbits hgen => ?_
  have inK := hY w _ Y
  obtain ⟨K, eK⟩ : ∃ K, K = Kf w.params := ⟨_, rfl⟩
  obtain ⟨fd, ct, sp, tabs, hbind, hfn, hsp⟩ := give w mg fa _ Y G.T.g hmg
  rw [← eK] at inK tabs hfn hsp
  have rv := vals_ints hall
  have lenV := hall.length
  have lenO : ns.length ≤ sizeLine := Nat.le_trans hlen hn2
  obtain ⟨ts, ets⟩ : ∃ ts, ts = ct.map (·.2) := ⟨_, rfl⟩
  have inT : ∀ q ∈ ct, q.2 ∈ ts := fun q h => by rw [ets]; exact List.mem_map.mpr ⟨q, h, rfl⟩
  have ofT : ∀ b ∈ ts, ∃ q ∈ ct, q.2 = b := fun b h => by rw [ets] at h; exact List.mem_map.mp h
  have tabAt : ∀ b ∈ ts, s₁.heap.get? b = some { cls := .none, data := .fields #[] } := fun b h => by
    obtain ⟨q, hq, rfl⟩ := ofT b h
    exact (tabs q hq).2.1
  have tNa : ∀ b ∈ ts, b ≠ a := fun b h e => by
    have z := tabAt b h
    rw [e, scr] at z
    have z2 := congrArg Obj.data (Option.some.inj z)
    cases z2
  -- the script's place
  obtain ⟨own, own1, own2, own3⟩ : ∃ own : Option HO, (∀ u, own = some u → ∃ ob : Obj, u = .frz ob (.lst (ns.map V.int)) ∧ ob = { cls := .type "list", data := .seq vs.toArray }) ∧ (∀ H : Hp, H a = own → SqL K H a (ns.map V.int)) ∧ (own ≠ none → K.lookup a = none) := by
    cases lk : K.lookup a with
    | none =>
      refine ⟨some (.frz { cls := .type "list", data := .seq vs.toArray } (.lst (ns.map V.int))), fun u e => ⟨_, (Option.some.inj e).symm, rfl⟩, fun H e => .inl (.inr ⟨_, e⟩), fun _ => rfl⟩
    | some ob =>
      have e := inK a ob lk
      rw [scr] at e
      cases e
      exact ⟨none, fun u e => (by cases e), fun H _ => .inr ⟨_, vs.toArray, _, lk, rfl, rfl, rfl, by rw [List.size_toArray, lenV]; exact lenO, by simpa using rv⟩, fun z => absurd rfl z⟩
  obtain ⟨H, eH⟩ : ∃ H, H = hp0 ts a own := ⟨_, rfl⟩
  have HT : ∀ q ∈ ct, H q.2 = some (.tbl #[]) := fun q h => by rw [eH]; exact hp0_t (inT q h) (tNa _ (inT q h))
  have HS : SqL K H a (ns.map V.int) := own2 H (by rw [eH]; exact hp0_a)
  have hok : HOk l.prog w H s₁.heap := fun b u e => by
    rw [eH] at e
    rcases hp0_at e with ⟨rfl, e2⟩ | ⟨_, m, rfl⟩
    · obtain ⟨ob, rfl, rfl⟩ := own1 u e2
      exact ⟨scr, by rw [List.length_map]; exact lenO, vs, _, rv, scr⟩
    · exact tabAt b m
  -- what is neither list nor empty table is not tracked
  have untr : ∀ {b : Addr} {ob : Obj}, s₁.heap.get? b = some ob → (∀ vs n, ob.data ≠ .seq vs n) → ob.data ≠ .fields #[] → H b = none := fun {b ob} e n1 n2 => by
    by_cases z : H b = none
    · exact z
    · rw [eH] at z
      rcases hp0_some z with ⟨rfl, _⟩ | ⟨_, m⟩
      · rw [scr] at e
        cases e
        exact absurd rfl (n1 _ _)
      · rw [tabAt b m] at e
        cases e
        exact absurd rfl n2
  have hid : ∀ {b : Addr} {ob : Obj}, s₁.heap.get? b = some ob → (∀ vs n, ob.data ≠ .seq vs n) → ob.data ≠ .fields #[] → (hidT s₁.heap H).get? b = some ob := fun e n1 n2 => hidT_get e (untr e n1 n2)
  have nsH : ∀ {b : Addr} {M : Str → Option Value}, s₁.heap.Ns b M → (hidT s₁.heap H).Ns b M := fun ⟨ob, es, ep, e, dd, r⟩ => ⟨ob, es, ep, hid e (by rw [dd]; intro _ _ z; cases z) (by rw [dd]; intro z; cases z), dd, r⟩
  have inH : K.In (hidT s₁.heap H) := fun b ob e => hidT_get (inK b ob e) (by
    by_cases z : H b = none
    · exact z
    · rw [eH] at z
      rcases hp0_some z with ⟨rfl, no⟩ | ⟨_, m⟩
      · rw [own3 no] at e
        cases e
      · obtain ⟨q, hq, rfl⟩ := ofT b m
        rw [(tabs q hq).2.2] at e
        cases e)
  obtain ⟨mc, lim1, lim2⟩ := G.T.nolimit
  have hM : L2.Mod K mg (hidT s₁.heap H) := ⟨inH, nsH G.T.g, ⟨mb, nsH G.T.b, G.T.builtins⟩, mc, nsH lim1, lim2⟩
  have tb : ∀ q ∈ ct, TabB (hidT s₁.heap H) mg q.1 q.2 := fun q hq => by
    obtain ⟨cq, tq, _⟩ := tabs q hq
    refine ⟨?_, ?_, fun z => ?_⟩
    · obtain ⟨ob, us, file, tf, flags, tg, inF, text, tt, e1, r1, r2, r3, rest⟩ := cq
      refine ⟨ob, us, file, tf, flags, tg, inF, text, tt, hid e1 (fun _ _ z => ?_) (fun z => ?_), r1, r2, r3, rest⟩
      · rw [r2] at z
        cases z
      · rw [r2] at z
        cases z
        simp at r3
    · obtain ⟨bm, ob, b1, b2, b3, b4, b5, b6⟩ := G.T.bmain
      refine ⟨bm, ob, b1, b2, fun z => ?_, fun z => ?_, hid b3 (by rw [b6]; intro _ _ z; cases z) (by rw [b6]; intro z; cases z), b4, b5, b6⟩
      · obtain ⟨og, es, ep, e, dd, _⟩ := G.T.g
        rw [z, e] at b3
        cases b3
        rw [dd] at b6
        cases b6
      · rw [z, tq] at b3
        cases b3
        cases b6
    · obtain ⟨og, es, ep, e, dd, _⟩ := G.T.g
      rw [z, tq] at e
      cases e
      cases dd
  have e0 : Env0 l.prog w K mg (hidT s₁.heap H) callerA [] s₁ H := ⟨rfl, hM, fun b ob e => of_hidT e, Nat.le_of_eq (hidT_size _ _), trivial, (fun b h => by cases h), hok, .of_eq hgen⟩
  have run := (hfn _ (nsH G.T.g) inH tb).run callerA [] s₁ H ⟨[.ref a], []⟩ [.ref a] [.ref a] _ _ hr rfl e0 (hbind s₁ (.ref a)) (.cons rfl .nil) (hsp H a ns HS hlen HT)
  refine codeAny_mono run fun r s' post => ?_
  match r, post with
  | .error e, z => exact False.elim z
  | .ok .next, z => exact False.elim z
  | .ok .brk, z => exact False.elim z
  | .ok .cont, z => exact False.elim z
  | .ok (.ret u), z =>
    obtain ⟨v, H', os, bare, un, hok', r', rfl⟩ := z
    obtain rfl : u = Value.bool true := r'
    have kept : ∀ b ob, ¬ b ∈ ts → s₁.heap.get? b = some ob → s'.heap.get? b = some ob := fun b ob nb e => by
      cases hb : H b with
      | none => exact un.keep b ob e hb (fun z => by cases z) (by simp)
      | some u =>
        have hb' := hb
        rw [eH] at hb'
        rcases hp0_at hb' with ⟨rfl, e2⟩ | ⟨_, m, _⟩
        · obtain ⟨o2, rfl, rfl⟩ := own1 u e2
          have later := (hok' b _ (un.frzs b _ _ hb)).1
          rw [scr] at e
          cases e
          exact later
        · exact absurd m nb
    have grows : ∀ b ∈ ts, ∃ more : Array Value, s'.heap.get? b = some { cls := .none, data := .fields more } := fun b m => by
      obtain ⟨q, hq, rfl⟩ := ofT b m
      obtain ⟨more, z⟩ := un.tbls q.2 #[] (HT q hq)
      exact ⟨_, hok' q.2 _ z⟩
    refine ⟨rfl, ⟨fun b ob e => ?_, fun b ob e => ?_⟩, os, bare⟩
    · by_cases m : b ∈ ts
      · obtain ⟨more, e2⟩ := grows b m
        obtain ⟨q, hq, rfl⟩ := ofT b m
        rw [tabAt _ m] at e
        cases e
        exact .inr (.inl ⟨((tabs q hq).1.tab (tabs q hq).2.1).isCodeTable, rfl, #[], more, rfl, by rw [Array.empty_append]; exact e2⟩)
      · exact .inl (kept b ob m e)
    · by_cases m : b ∈ ts
      · obtain ⟨more, e2⟩ := grows b m
        exact ⟨_, e2⟩
      · exact ⟨ob, kept b ob m e⟩
end Kf

set_option Elab.async false
set_option linter.all false
set_option maxRecDepth 100000
set_option maxHeartbeats 2000000
namespace Kf
open PySem PySem.Spec PyProof.Rows L2 LamX NdefX TL
/-! ## what the top has left -/
structure DefAt (K : PySem.W.Frag) (x : Str) (st : Stmt) : Prop where
  ex : ∃ f fd, PySem.W.nsIn K mainGlobals x = some (some (.ref f)) ∧ L2.Fun K x x st f fd
section
variable {K : PySem.W.Frag} {x qual : Str} {st : Stmt} {f : Addr} {od an : Option Addr} {sl : Array (Option Value)} {oc kV dc pm cd ct : Value}
theorem DefAt.of (a : PySem.W.nsIn K mainGlobals x = some (some (.ref f))) (l : K.lookup f = some ⟨oc, od, .func (PySem.W.fnOf x x (defArgs st) (defBody st) (defScope st) .none kV dc pm an cd ct), sl⟩) (c : PySem.W.codeIn K cd x = true) (k : PySem.W.keepIn K (.ref f) = true) : DefAt K x st := ⟨f, _, a, fun_mk l c k⟩
end
theorem DefAt.cal {P : Program} {w : World} {K : PySem.W.Frag} {mg : Str → Option Value} {base h : Heap} {k : Nat} {x : Str} {st : Stmt} {ps : List Str} {sp : Sp} (D : DefAt K x st) (X : K.In h) (G : h.Ns mainGlobals mg)
    (hb : ∀ (kV doc pm : Value) (an : Option Addr) (cdv ct : Value) (us : List Value), us.length = ps.length → bindArgs (PySem.W.fnOf x x (defArgs st) (defBody st) (defScope st) .none kV doc pm an cdv ct) ⟨us, []⟩ = pure (ps.zip us))
    (ok : ∀ f fd, L2.Fun K x x st f fd → FnOk P w K mg base CX0 k f fd ps sp) : Cal P w K mg base k x ps sp := by
  obtain ⟨f, fd, a, F⟩ := D.ex
  exact ⟨f, fd, PySem.W.mg_of X G a, F.kp, F.binds hb, ok f fd F⟩
theorem constAt {K : PySem.W.Frag} {x : Str} {v : V} {u : Value} (a : PySem.W.nsIn K mainGlobals x = some (some u)) (r : RelV v u) : ∃ u, PySem.W.nsIn K mainGlobals x = some (some u) ∧ RelV v u := ⟨u, a, r⟩
/-- a property whose getter hands back a field -/
structure GetAt (K : PySem.W.Frag) (C : Addr) (x qual fl : Str) (st : Stmt) : Prop where
  ex : ∃ (p g : Addr) (oc : Value) (od : Option Addr) (kV doc pm : Value) (an : Option Addr) (cdv ct : Value) (osl : Array (Option Value)), PropOf K C x p g ∧
    K.lookup g = some ⟨oc, od, .func (PySem.W.fnOf x qual (defArgs st) (defBody st) (defScope st) .none kV doc pm an cdv ct), osl⟩ ∧ PySem.W.codeIn K cdv qual = true
theorem GetAt.of {K : PySem.W.Frag} {C p g : Addr} {x qual fl : Str} {st : Stmt} {oc : Value} {od : Option Addr} {kV doc pm : Value} {an : Option Addr} {cdv ct : Value} {osl : Array (Option Value)} {rest : List Value} (a : PySem.W.findIn K (.ref C) x = some (some (.ref p))) (b : PySem.W.specialIn K (.ref p) "__get__" = some (some (.builtin "property.__get__")))
    (c : PySem.W.takesIn K (.ref p) = some true) (d : PySem.W.recIn K p "property" = some (.ref g :: rest)) (l : K.lookup g = some ⟨oc, od, .func (PySem.W.fnOf x qual (defArgs st) (defBody st) (defScope st) .none kV doc pm an cdv ct), osl⟩) (e : PySem.W.codeIn K cdv qual = true) : GetAt K C x qual fl st :=
  ⟨p, g, oc, od, kV, doc, pm, an, cdv, ct, osl, ⟨a, b, c, _, d⟩, l, e⟩
theorem GetAt.prop {P : Program} {w : World} {K : PySem.W.Frag} {mg : Str → Option Value} {base : Heap} {C : Addr} {x qual fl : Str} {st : Stmt} {p1 p2 p3 : Pos} (D : GetAt K C x qual fl st) (S : FnScope ["self"] ["self"] (defScope st)) (hb : defBody st = [.Return (some (.Attribute (.Name "self" p1) fl p2)) p3]) (c : Cls K C) (n : NoAttr K C fl)
    (bd : ∀ (kV doc pm : Value) (an : Option Addr) (cdv ct : Value) (us : List Value), us.length = 1 → bindArgs (PySem.W.fnOf x qual (defArgs st) (defBody st) (defScope st) .none kV doc pm an cdv ct) ⟨us, []⟩ = pure ([("self" : Str)].zip us)) : PropC P w K mg base C x fl := by
  obtain ⟨p, g, oc, od, kV, doc, pm, an, cdv, ct, osl, hp, l, e⟩ := D.ex
  exact ⟨p, g, _, hp, .all (bd kV doc pm an cdv ct), fn_getter l e S rfl hb c n⟩
def nmT : Nat → Nat → Str := fun _ _ => "is_top.<locals>.<lambda>"
theorem give_mk {l : PySem.W.OpenLaw} {w : World} {K : PySem.W.Frag} {h : Heap} {mg : Str → Option Value} {fa C fi fe ft fl ctp Pt : Addr} {ts : List Addr} {odi ani : Option Addr} {sli : Array (Option Value)} {oci kVi dci pmi cdi cti : Value} {ody any : Option Addr} {sly : Array (Option Value)} {ocy kVy dcy pmy cdy cty : Value} {odt ant : Option Addr} {slt : Array (Option Value)} {oct kVt dct pmt ctt : Value} {odl anl : Option Addr} {sll : Array (Option Value)} {ocl kVl dcl pml cdl ctl : Value} {odo ano : Option Addr} {slo : Array (Option Value)} {oco kVo dco pmo cdo cto : Value} {fo : Addr}
    (X : K.In h) (G : h.Ns mainGlobals mg) (hfa : mg "law" = some (.ref fa)) (hts : ∀ P ∈ ts, h.get? P = some { cls := .none, data := .fields #[] }) (hPt : Pt ∈ ts)
    (d_is_name : DefAt K "is_name" s_is_name)
    (d_is_integer : DefAt K "is_integer" s_is_integer)
    (d_is_list : DefAt K "is_list" s_is_list)
    (d_all_differ : DefAt K "all_differ" s_all_differ)
    (d_is_choice : DefAt K "is_choice" s_is_choice)
    (d_is_part : DefAt K "is_part" s_is_part)
    (d_are_parts : DefAt K "are_parts" s_are_parts)
    (d_is_cause : DefAt K "is_cause" s_is_cause)
    (d_are_causes : DefAt K "are_causes" s_are_causes)
    (d_is_watch : DefAt K "is_watch" s_is_watch)
    (d_is_gate : DefAt K "is_gate" s_is_gate)
    (d_are_gates : DefAt K "are_gates" s_are_gates)
    (d_take : DefAt K "take" s_take)
    (d_first_uses : DefAt K "first_uses" s_first_uses)
    (d_gate_truth : DefAt K "gate_truth" s_gate_truth)
    (d__law_take : DefAt K "_law_take" s__law_take)
    (d__law_begin : DefAt K "_law_begin" s__law_begin)
    (d__law_pick : DefAt K "_law_pick" s__law_pick)
    (d__law_mixed : DefAt K "_law_mixed" s__law_mixed)
    (d__law_words : DefAt K "_law_words" s__law_words)
    (d__law_some : DefAt K "_law_some" s__law_some)
    (d__law_gate : DefAt K "_law_gate" s__law_gate)
    (d__law_seat : DefAt K "_law_seat" s__law_seat)
    (d__law_truth : DefAt K "_law_truth" s__law_truth)
    (d__law_truths : DefAt K "_law_truths" s__law_truths)
    (d__law_closed : DefAt K "_law_closed" s__law_closed)
    (d__law_fresh : DefAt K "_law_fresh" s__law_fresh)
    (d__law_plant : DefAt K "_law_plant" s__law_plant)
    (d__law_tuples : DefAt K "_law_tuples" s__law_tuples)
    (d__law_told : DefAt K "_law_told" s__law_told)
    (d__law_made : DefAt K "_law_made" s__law_made)
    (d__law_other : DefAt K "_law_other" s__law_other)
    (at_ : PySem.W.nsIn K mainGlobals "is_top" = some (some (.ref ft)))
    (lt : K.lookup ft = some ⟨oct, odt, .func (PySem.W.fnOf "is_top" "is_top" (defArgs s_is_top) (defBody s_is_top) (defScope s_is_top) .none kVt dct pmt ant (.ref ctp) ctt), slt⟩)
    (ct_ : PySem.W.codeIn K (.ref ctp) "is_top" = true)
    (kt : PySem.W.keepIn K (.ref ft) = true)
    (th : PySem.W.codeHdIn K ctp Pt = true)
    (tn : K.lookup Pt = none)
    (al : PySem.W.nsIn K mainGlobals "tell" = some (some (.ref fl)))
    (ll : K.lookup fl = some ⟨ocl, odl, .func (PySem.W.fnOf "tell" "tell" (defArgs s_tell) (defBody s_tell) (defScope s_tell) .none kVl dcl pml anl cdl ctl), sll⟩)
    (cl_ : PySem.W.codeIn K cdl "tell" = true)
    (kl : PySem.W.keepIn K (.ref fl) = true)
    (ao : PySem.W.nsIn K mainGlobals "law" = some (some (.ref fo)))
    (lo : K.lookup fo = some ⟨oco, odo, .func (PySem.W.fnOf "law" "law" (defArgs s_law) (defBody s_law) (defScope s_law) .none kVo dco pmo ano cdo cto), slo⟩)
    (co : PySem.W.codeIn K cdo "law" = true)
    (ko : PySem.W.keepIn K (.ref fo) = true)
    (aC : PySem.W.nsIn K mainGlobals "Plant" = some (some (.ref C)))
    (ai : PySem.W.findIn K (.ref C) "__init__" = some (some (.ref fi)))
    (ii : PySem.W.isFn K (.ref fi) = true)
    (li : K.lookup fi = some ⟨oci, odi, .func (PySem.W.fnOf "__init__" "Plant.__init__" (defArgs s_Plant___init__) (defBody s_Plant___init__) (defScope s_Plant___init__) .none kVi dci pmi ani cdi cti), sli⟩)
    (ci : PySem.W.codeIn K cdi "Plant.__init__" = true)
    (ki : PySem.W.keepIn K (.ref fi) = true)
    (ae : PySem.W.findIn K (.ref C) "__eq__" = some (some (.ref fe)))
    (ie : PySem.W.isFn K (.ref fe) = true)
    (ly : K.lookup fe = some ⟨ocy, ody, .func (PySem.W.fnOf "__eq__" "Plant.__eq__" (defArgs s_Plant___eq__) (defBody s_Plant___eq__) (defScope s_Plant___eq__) .none kVy dcy pmy any cdy cty), sly⟩)
    (cy : PySem.W.codeIn K cdy "Plant.__eq__" = true)
    (ky : PySem.W.keepIn K (.ref fe) = true)
    (pg : PySem.W.plainGet K C Str.empty = true)
    (hd : PySem.W.hasDictIn K C = true)
    (po : PySem.W.plainOver K C = true)
    (sa : PySem.W.findIn K (.ref C) "__setattr__" = some (some (.builtin "object.__setattr__")))
    (mk : PySem.W.makesIn K C = true)
    (kc : PySem.W.keepIn K (.ref C) = true)
    (n_parts : PySem.W.findIn K (.ref C) "_parts" = some none)
    (n_gates : PySem.W.findIn K (.ref C) "_gates" = some none)
    (n_causes : PySem.W.findIn K (.ref C) "_causes" = some none)
    (n_top : PySem.W.findIn K (.ref C) "_top" = some none)
    (g_parts : GetAt K C "parts" "Plant.parts" "_parts" s_Plant_parts)
    (g_gates : GetAt K C "gates" "Plant.gates" "_gates" s_Plant_gates)
    (g_causes : GetAt K C "causes" "Plant.causes" "_causes" s_Plant_causes)
    (g_top : GetAt K C "top" "Plant.top" "_top" s_Plant_top)
    (ne : PySem.W.findIn K (.ref C) "__ne__" = some (some (.builtin "object.__ne__")))
    (mo : PySem.W.mroIn K C (.type "object") = some true)
    (q1 : PySem.W.findIn K (.ref C) "__class__" = some (some (.builtin "object.__class__")))
    (q2 : PySem.W.specialIn K (.builtin "object.__class__") "__get__" = some (some (.builtin "getset_descriptor.__get__")))
    (q3 : PySem.W.takesIn K (.builtin "object.__class__") = some true)
    (nf_NoneType : PySem.W.notFirst K C (.type "NoneType") = true)
    (ko_NoneType : PySem.W.kitOne K (.type "NoneType") (.ref C) = some false)
    (nf_int : PySem.W.notFirst K C (.type "int") = true)
    (ko_int : PySem.W.kitOne K (.type "int") (.ref C) = some false)
    (nf_str : PySem.W.notFirst K C (.type "str") = true)
    (ko_str : PySem.W.kitOne K (.type "str") (.ref C) = some false)
    (nf_tuple : PySem.W.notFirst K C (.type "tuple") = true)
    (ko_tuple : PySem.W.kitOne K (.type "tuple") (.ref C) = some false)
    (nf_list : PySem.W.notFirst K C (.type "list") = true)
    (ko_list : PySem.W.kitOne K (.type "list") (.ref C) = some false)
    (nfo : PySem.W.notFirst K C (.ref C) = true)
    (z_isinstance : PySem.W.nsIn K mainGlobals "isinstance" = some none)
    (z_str : PySem.W.nsIn K mainGlobals "str" = some none)
    (z_int : PySem.W.nsIn K mainGlobals "int" = some none)
    (z_bool : PySem.W.nsIn K mainGlobals "bool" = some none)
    (z_list : PySem.W.nsIn K mainGlobals "list" = some none)
    (z_tuple : PySem.W.nsIn K mainGlobals "tuple" = some none)
    (z_dict : PySem.W.nsIn K mainGlobals "dict" = some none)
    (z_len : PySem.W.nsIn K mainGlobals "len" = some none)
    (z_all : PySem.W.nsIn K mainGlobals "all" = some none)
    (z_any : PySem.W.nsIn K mainGlobals "any" = some none)
    (z_range : PySem.W.nsIn K mainGlobals "range" = some none)
    (z_abs : PySem.W.nsIn K mainGlobals "abs" = some none)
    (z_divmod : PySem.W.nsIn K mainGlobals "divmod" = some none)
    (z_min : PySem.W.nsIn K mainGlobals "min" = some none)
    (z_repr : PySem.W.nsIn K mainGlobals "repr" = some none)
    (z_sorted : PySem.W.nsIn K mainGlobals "sorted" = some none)
    (z_enumerate : PySem.W.nsIn K mainGlobals "enumerate" = some none)
    (z_zip : PySem.W.nsIn K mainGlobals "zip" = some none)
    (z_set : PySem.W.nsIn K mainGlobals "set" = some none)
    (v_LETTERS : ∃ u, PySem.W.nsIn K mainGlobals "LETTERS" = some (some u) ∧ RelV (.str "abcdefghijklmnopqrstuvwxyz") u)
    (v_MOST_LETTERS : ∃ u, PySem.W.nsIn K mainGlobals "MOST_LETTERS" = some (some u) ∧ RelV (.int 6) u)
    (v_MOST_PARTS : ∃ u, PySem.W.nsIn K mainGlobals "MOST_PARTS" = some (some u) ∧ RelV (.int 8) u)
    (v_MOST_GATES : ∃ u, PySem.W.nsIn K mainGlobals "MOST_GATES" = some (some u) ∧ RelV (.int 8) u)
    (v_MOST_CAUSES : ∃ u, PySem.W.nsIn K mainGlobals "MOST_CAUSES" = some (some u) ∧ RelV (.int 4) u) :
    GiveG l w K 9 63 "script" mg fa h := by
  have e := hfa.symm.trans (PySem.W.mg_of X G ao)
  cases e
  have T : Nm mg := ⟨PySem.W.mg_none_of X G z_isinstance, PySem.W.mg_none_of X G z_str, PySem.W.mg_none_of X G z_int, PySem.W.mg_none_of X G z_bool, PySem.W.mg_none_of X G z_list, PySem.W.mg_none_of X G z_tuple, PySem.W.mg_none_of X G z_dict, PySem.W.mg_none_of X G z_len, PySem.W.mg_none_of X G z_all, PySem.W.mg_none_of X G z_any, PySem.W.mg_none_of X G z_range, PySem.W.mg_none_of X G z_abs, PySem.W.mg_none_of X G z_divmod, PySem.W.mg_none_of X G z_min, PySem.W.mg_none_of X G z_repr, PySem.W.mg_none_of X G z_sorted, PySem.W.mg_none_of X G z_enumerate, PySem.W.mg_none_of X G z_zip, PySem.W.mg_none_of X G z_set⟩
  have gc : ∀ {x : Str} {v : V}, (∃ u, PySem.W.nsIn K mainGlobals x = some (some u) ∧ RelV v u) → GC mg x v := fun ⟨u, a, r⟩ => ⟨u, PySem.W.mg_of X G a, r⟩
  have Z : Cn mg := ⟨gc v_LETTERS, gc v_MOST_LETTERS, gc v_MOST_PARTS, gc v_MOST_GATES, gc v_MOST_CAUSES⟩
  have cl : Cls K C := ⟨pg, hd, po, sa⟩
  have L : PlC K mg C := ⟨cl, n_parts, n_gates, n_causes, n_top, PySem.W.mg_of X G aC⟩
  have Lk : PlK K C := ⟨q1, q2, q3, mo⟩
  have NP : PlNo K C := ⟨fun t ht => by
    simp only [List.mem_cons, List.not_mem_nil, or_false] at ht
    rcases ht with rfl | rfl | rfl | rfl | rfl
    · exact ⟨nf_NoneType, ko_NoneType⟩
    · exact ⟨nf_int, ko_int⟩
    · exact ⟨nf_str, ko_str⟩
    · exact ⟨nf_tuple, ko_tuple⟩
    · exact ⟨nf_list, ko_list⟩, nfo⟩
  have Fi := fun_mk (st := s_Plant___init__) li ci ki
  have Fe := fun_mk (st := s_Plant___eq__) ly cy ky
  have Fl := fun_mk (st := s_tell) ll cl_ kl
  have Fo := fun_mk (st := s_law) lo co ko
  refine ⟨PySem.W.fnOf "law" "law" (defArgs s_law) (defBody s_law) (defScope s_law) .none kVo dco pmo ano cdo cto, [(ctp, Pt)], spLaw K [(Pt, nmT)], fun q hq => ?_, fun st u => .of_eq rfl, fun base gb inb tb => ?_, fun H a ns hs hl ht => ⟨a, ns, rfl, hs, hl, ?_, fun _ => rfl⟩⟩
  · cases List.mem_singleton.mp hq
    exact ⟨PySem.W.codeHd_of_K X th, hts Pt hPt, tn⟩
  · have TB := tb (ctp, Pt) (List.mem_singleton.mpr rfl)
    obtain ⟨nm, enm⟩ : ∃ nm, nm = nmT := ⟨_, rfl⟩
    rw [← enm]
    have C_is_name : Cal l.prog w K mg base 1 "is_name" ["value"] spIsName := d_is_name.cal X G (fun _ _ _ _ _ _ us hl => match us, hl with | [_], _ => rfl) fun f fd F => ok_is_name F T Z
    have C_is_integer : Cal l.prog w K mg base 1 "is_integer" ["value"] spIsInteger := d_is_integer.cal X G (fun _ _ _ _ _ _ us hl => match us, hl with | [_], _ => rfl) fun f fd F => ok_is_integer F T
    have C_is_list : Cal l.prog w K mg base 1 "is_list" ["value"] (spIsList K) := d_is_list.cal X G (fun _ _ _ _ _ _ us hl => match us, hl with | [_], _ => rfl) fun f fd F => ok_is_list F T
    have C_all_differ : Cal l.prog w K mg base 1 "all_differ" ["values"] (spAllDiffer K) := d_all_differ.cal X G (fun _ _ _ _ _ _ us hl => match us, hl with | [_], _ => rfl) fun f fd F => ok_all_differ F T
    have C_is_choice : Cal l.prog w K mg base 2 "is_choice" ["value", "names"] (spIsChoice K) := d_is_choice.cal X G (fun _ _ _ _ _ _ us hl => match us, hl with | [_, _], _ => rfl) fun f fd F => ok_is_choice F T C_all_differ
    have C_is_part : Cal l.prog w K mg base 2 "is_part" ["value"] (spIsPart K) := d_is_part.cal X G (fun _ _ _ _ _ _ us hl => match us, hl with | [_], _ => rfl) fun f fd F => ok_is_part F T C_is_name
    have C_are_parts : Cal l.prog w K mg base 3 "are_parts" ["value"] (spAreParts K) := d_are_parts.cal X G (fun _ _ _ _ _ _ us hl => match us, hl with | [_], _ => rfl) fun f fd F => ok_are_parts F T Z C_is_list C_is_part C_all_differ
    have C_is_cause : Cal l.prog w K mg base 3 "is_cause" ["value", "parts", "names"] (spIsCause K) := d_is_cause.cal X G (fun _ _ _ _ _ _ us hl => match us, hl with | [_, _, _], _ => rfl) fun f fd F => ok_is_cause F T C_is_choice
    have C_are_causes : Cal l.prog w K mg base 4 "are_causes" ["value", "parts", "names"] (spAreCauses K) := d_are_causes.cal X G (fun _ _ _ _ _ _ us hl => match us, hl with | [_, _, _], _ => rfl) fun f fd F => ok_are_causes F T Z C_is_list C_is_cause
    have C_is_watch : Cal l.prog w K mg base 3 "is_watch" ["word", "rest", "parts", "names"] (spIsWatch K) := d_is_watch.cal X G (fun _ _ _ _ _ _ us hl => match us, hl with | [_, _, _, _], _ => rfl) fun f fd F => ok_is_watch F T C_is_choice C_is_integer
    have C_is_gate : Cal l.prog w K mg base 4 "is_gate" ["value", "parts", "names"] (spIsGate K) := d_is_gate.cal X G (fun _ _ _ _ _ _ us hl => match us, hl with | [_, _, _], _ => rfl) fun f fd F => ok_is_gate F T C_is_name C_is_watch
    have C_are_gates : Cal l.prog w K mg base 5 "are_gates" ["value", "parts"] (spAreGates K) := d_are_gates.cal X G (fun _ _ _ _ _ _ us hl => match us, hl with | [_, _], _ => rfl) fun f fd F => ok_are_gates F T Z C_is_list C_is_gate
    have C_take : Cal l.prog w K mg base 1 "take" ["gates", "uses", "failed"] (spTakeU K) := d_take.cal X G (fun _ _ _ _ _ _ us hl => match us, hl with | [_, _, _], _ => rfl) fun f fd F => ok_take_ F T
    have C_first_uses : Cal l.prog w K mg base 2 "first_uses" ["gates"] (spFirst K) := d_first_uses.cal X G (fun _ _ _ _ _ _ us hl => match us, hl with | [_], _ => rfl) fun f fd F => ok_first_uses F T C_take
    have C_gate_truth : Cal l.prog w K mg base 1 "gate_truth" ["gate", "truths", "uses"] (spGateTruth K) := d_gate_truth.cal X G (fun _ _ _ _ _ _ us hl => match us, hl with | [_, _, _], _ => rfl) fun f fd F => ok_gate_truth F T
    have C__law_take : Cal l.prog w K mg base 1 "_law_take" ["draw", "size"] spTake := d__law_take.cal X G (fun _ _ _ _ _ _ us hl => match us, hl with | [_, _], _ => rfl) fun f fd F => ok_take F T.n_int T.n_divmod
    have C__law_begin : Cal l.prog w K mg base 1 "_law_begin" ["script"] (spBegin K) := d__law_begin.cal X G (fun _ _ _ _ _ _ us hl => match us, hl with | [_], _ => rfl) fun f fd F => ok_begin F T.n_abs T.n_list
    have C__law_pick : Cal l.prog w K mg base 2 "_law_pick" ["draw", "some"] (spPick2 K) := d__law_pick.cal X G (fun _ _ _ _ _ _ us hl => match us, hl with | [_, _], _ => rfl) fun f fd F => ok_pick2 F T C__law_take
    have C__law_mixed : Cal l.prog w K mg base 2 "_law_mixed" ["draw", "some"] (spMixed K) := d__law_mixed.cal X G (fun _ _ _ _ _ _ us hl => match us, hl with | [_, _], _ => rfl) fun f fd F => ok_mixed (k := 0) F T C__law_take
    have C__law_words : Cal l.prog w K mg base 3 "_law_words" ["draw", "many"] spWords := d__law_words.cal X G (fun _ _ _ _ _ _ us hl => match us, hl with | [_, _], _ => rfl) fun f fd F => ok_words F T C__law_take C__law_pick
    have C__law_some : Cal l.prog w K mg base 3 "_law_some" ["draw", "labels", "bound"] (spSome K) := d__law_some.cal X G (fun _ _ _ _ _ _ us hl => match us, hl with | [_, _, _], _ => rfl) fun f fd F => ok_some F T C__law_take C__law_mixed
    have C__law_gate : Cal l.prog w K mg base 4 "_law_gate" ["draw", "name", "pieces", "labels"] (spGate K) := d__law_gate.cal X G (fun _ _ _ _ _ _ us hl => match us, hl with | [_, _, _, _], _ => rfl) fun f fd F => ok_gate F T C__law_take C__law_pick C__law_mixed C__law_some
    have C__law_seat : Cal l.prog w K mg base 1 "_law_seat" ["m", "w"] (spSeat K) := d__law_seat.cal X G (fun _ _ _ _ _ _ us hl => match us, hl with | [_, _], _ => rfl) fun f fd F => ok_seat F T
    have C__law_truth : Cal l.prog w K mg base 1 "_law_truth" ["w", "gate", "found"] (spLawTruth K) := d__law_truth.cal X G (fun _ _ _ _ _ _ us hl => match us, hl with | [_, _, _], _ => rfl) fun f fd F => ok_law_truth F T
    have C__law_truths : Cal l.prog w K mg base 2 "_law_truths" ["m", "w"] (spLawTruths K) := d__law_truths.cal X G (fun _ _ _ _ _ _ us hl => match us, hl with | [_, _], _ => rfl) fun f fd F => ok_law_truths F T C__law_truth
    have C__law_closed : Cal l.prog w K mg base 3 "_law_closed" ["m", "w"] (spClosed K) := d__law_closed.cal X G (fun _ _ _ _ _ _ us hl => match us, hl with | [_, _], _ => rfl) fun f fd F => ok_law_closed F T C__law_truths
    have C__law_fresh : Cal l.prog w K mg base 4 "_law_fresh" ["m"] (spFresh K) := d__law_fresh.cal X G (fun _ _ _ _ _ _ us hl => match us, hl with | [_], _ => rfl) fun f fd F => ok_law_fresh F T C__law_seat C__law_closed
    have C__law_plant : Cal l.prog w K mg base 5 "_law_plant" ["draw", "most_parts", "most_gates", "most_causes"] (spPlantL K) := d__law_plant.cal X G (fun _ _ _ _ _ _ us hl => match us, hl with | [_, _, _, _], _ => rfl) fun f fd F => ok_plantL F T C__law_take C__law_pick C__law_words C__law_some C__law_gate C__law_fresh
    have C__law_tuples : Cal l.prog w K mg base 1 "_law_tuples" ["m"] (spTuples K) := d__law_tuples.cal X G (fun _ _ _ _ _ _ us hl => match us, hl with | [_], _ => rfl) fun f fd F => ok_law_tuples F T
    have C__law_other : Cal l.prog w K mg base 2 "_law_other" ["draw", "m"] (spOther K) := d__law_other.cal X G (fun _ _ _ _ _ _ us hl => match us, hl with | [_, _], _ => rfl) fun f fd F => ok_other F T C__law_take
    have C_tell : CalS l.prog w K mg base 4 "tell" ["parts", "gates", "failed", "uses", "before"] (spTell l.prog w K mg base) := ⟨fl, _, PySem.W.mg_of X G al, kl, Fl.binds (fun _ _ _ _ _ _ us hl => match us, hl with | [_, _, _, _, _], _ => rfl), ok_tell Fl T C_gate_truth⟩
    have Ft : FunC K "is_top" "is_top" s_is_top ft _ ctp := ⟨oct, odt, kVt, dct, pmt, ant, ctt, slt, rfl, lt, ct_⟩
    have C_is_top : Cal l.prog w K mg base 5 "is_top" ["value", "parts", "gates"] (spIsTop K [(Pt, nm)]) := ⟨ft, _, PySem.W.mg_of X G at_, kt, .all (fun us hl => match us, hl with | [_, _, _], _ => rfl), ok_is_top Ft T TB (List.mem_singleton.mpr rfl) (fun _ _ => by rw [enm]; rfl) (fun p hp _ => by cases List.mem_singleton.mp hp; rfl) C_first_uses C_tell⟩
    have I : FnOk l.prog w K mg base CX0 6 fi _ ["self", "parts", "gates", "causes", "top"] (spInit K C [(Pt, nm)]) := ok_init Fi T L C_are_parts C_are_gates C_are_causes C_is_top
    have M : MakC l.prog w K mg base 6 "Plant" C ["self", "parts", "gates", "causes", "top"] (spInit K C [(Pt, nm)]) := ⟨fi, _, ⟨mk, ai, ii, kc⟩, PySem.W.mg_of X G aC, Fi.binds (fun _ _ _ _ _ _ us hl => match us, hl with | [_, _, _, _, _], _ => rfl), I⟩
    have MK : MakK l.prog w K mg base 6 "Plant" C ["self", "parts", "gates", "causes", "top"] ["top", "causes", "gates", "parts"] (spInit K C [(Pt, nm)]) := ⟨fi, _, ⟨mk, ai, ii, kc⟩, PySem.W.mg_of X G aC, kb_plant Fi, I⟩
    have R1 : PropC l.prog w K mg base C "parts" "_parts" := g_parts.prop sc_Plant_parts rfl cl n_parts (fun _ _ _ _ _ _ us hl => match us, hl with | [_], _ => rfl)
    have R2 : PropC l.prog w K mg base C "gates" "_gates" := g_gates.prop sc_Plant_gates rfl cl n_gates (fun _ _ _ _ _ _ us hl => match us, hl with | [_], _ => rfl)
    have R3 : PropC l.prog w K mg base C "causes" "_causes" := g_causes.prop sc_Plant_causes rfl cl n_causes (fun _ _ _ _ _ _ us hl => match us, hl with | [_], _ => rfl)
    have R4 : PropC l.prog w K mg base C "top" "_top" := g_top.prop sc_Plant_top rfl cl n_top (fun _ _ _ _ _ _ us hl => match us, hl with | [_], _ => rfl)
    have C__law_told : Cal l.prog w K mg base 3 "_law_told" ["made"] (spTold K C) := d__law_told.cal X G (fun _ _ _ _ _ _ us hl => match us, hl with | [_], _ => rfl) fun f fd F => ok_law_told F T L R1 R2 R3 R4
    have C__law_made : Cal l.prog w K mg base 8 "_law_made" ["m"] (spMade K C [(Pt, nm)]) := d__law_made.cal X G (fun _ _ _ _ _ _ us hl => match us, hl with | [_], _ => rfl) fun f fd F => ok_law_made F T M
    exact ok_law Fo T C__law_begin C__law_take C__law_plant M MK C__law_told C__law_tuples C__law_made C__law_other ⟨ae, ie, ne, mo⟩ (Fe.binds (fun _ _ _ _ _ _ us hl => match us, hl with | [_, _], _ => rfl)) (ok_eq Fe T L Lk) Lk L NP
  · intro p hp
    cases List.mem_singleton.mp hp
    exact ⟨#[], ht (ctp, Pt) (List.mem_singleton.mpr rfl), (by first | exact True.intro | exact .nil | (intro y hy; cases hy) | simp [TriplesOk]), fun pos cv z => by cases z⟩
end Kf

set_option Elab.async false
set_option linter.all false
open PySem PySem.W PyProof.Rows
set_option maxRecDepth 100000 in
set_option maxHeartbeats 0 in
theorem PySem.Challenge.cw_faultorder_k02_plants_as_made_holds : PySem.Challenge.rw_faultorder_k02_plants_as_made.Holds := by
  w_on; o_law; k_head; (case hw => w_witness2)
  k_fill
  refine Kf.walkG (l := PySem.Challenge.rw_faultorder_k02_plants_as_made) (n := 63) (k := 9) (x := "script") rfl rfl (by decide) ⟨rfl, by decide, by decide⟩ (fun w h Y => PySem.W.km_in_of Y) ?F
  case F =>
    intro w mg fa h Y G hmg
    refine' Kf.give_mk (PySem.W.km_in_of Y) G hmg (PySem.W.km_tabs_of Y) ?hPt ?d_is_name ?d_is_integer ?d_is_list ?d_all_differ ?d_is_choice ?d_is_part ?d_are_parts ?d_is_cause ?d_are_causes ?d_is_watch ?d_is_gate ?d_are_gates ?d_take ?d_first_uses ?d_gate_truth ?d__law_take ?d__law_begin ?d__law_pick ?d__law_mixed ?d__law_words ?d__law_some ?d__law_gate ?d__law_seat ?d__law_truth ?d__law_truths ?d__law_closed ?d__law_fresh ?d__law_plant ?d__law_tuples ?d__law_told ?d__law_made ?d__law_other ?at_ ?lt ?ct_ ?kt ?th ?tn ?al ?ll ?cl_ ?kl ?ao ?lo ?co ?ko ?aC ?ai ?ii ?li ?ci ?ki ?ae ?ie ?ly ?cy ?ky ?pg ?hd ?po ?sa ?mk ?kc ?n_parts ?n_gates ?n_causes ?n_top ?g_parts ?g_gates ?g_causes ?g_top ?ne ?mo ?q1 ?q2 ?q3 ?nf_NoneType ?ko_NoneType ?nf_int ?ko_int ?nf_str ?ko_str ?nf_tuple ?ko_tuple ?nf_list ?ko_list ?nfo ?z_isinstance ?z_str ?z_int ?z_bool ?z_list ?z_tuple ?z_dict ?z_len ?z_all ?z_any ?z_range ?z_abs ?z_divmod ?z_min ?z_repr ?z_sorted ?z_enumerate ?z_zip ?z_set ?v_LETTERS ?v_MOST_LETTERS ?v_MOST_PARTS ?v_MOST_GATES ?v_MOST_CAUSES
    (case hPt => exact List.mem_singleton.mpr rfl)
    (case d_is_name => (refine' Kf.DefAt.of ?a ?l ?c ?k; (case a => k_is); (case l => k_is); (case c => k_is); (case k => k_is)))
    (case d_is_integer => (refine' Kf.DefAt.of ?a ?l ?c ?k; (case a => k_is); (case l => k_is); (case c => k_is); (case k => k_is)))
    (case d_is_list => (refine' Kf.DefAt.of ?a ?l ?c ?k; (case a => k_is); (case l => k_is); (case c => k_is); (case k => k_is)))
    (case d_all_differ => (refine' Kf.DefAt.of ?a ?l ?c ?k; (case a => k_is); (case l => k_is); (case c => k_is); (case k => k_is)))
    (case d_is_choice => (refine' Kf.DefAt.of ?a ?l ?c ?k; (case a => k_is); (case l => k_is); (case c => k_is); (case k => k_is)))
    (case d_is_part => (refine' Kf.DefAt.of ?a ?l ?c ?k; (case a => k_is); (case l => k_is); (case c => k_is); (case k => k_is)))
    (case d_are_parts => (refine' Kf.DefAt.of ?a ?l ?c ?k; (case a => k_is); (case l => k_is); (case c => k_is); (case k => k_is)))
    (case d_is_cause => (refine' Kf.DefAt.of ?a ?l ?c ?k; (case a => k_is); (case l => k_is); (case c => k_is); (case k => k_is)))
    (case d_are_causes => (refine' Kf.DefAt.of ?a ?l ?c ?k; (case a => k_is); (case l => k_is); (case c => k_is); (case k => k_is)))
    (case d_is_watch => (refine' Kf.DefAt.of ?a ?l ?c ?k; (case a => k_is); (case l => k_is); (case c => k_is); (case k => k_is)))
    (case d_is_gate => (refine' Kf.DefAt.of ?a ?l ?c ?k; (case a => k_is); (case l => k_is); (case c => k_is); (case k => k_is)))
    (case d_are_gates => (refine' Kf.DefAt.of ?a ?l ?c ?k; (case a => k_is); (case l => k_is); (case c => k_is); (case k => k_is)))
    (case d_take => (refine' Kf.DefAt.of ?a ?l ?c ?k; (case a => k_is); (case l => k_is); (case c => k_is); (case k => k_is)))
    (case d_first_uses => (refine' Kf.DefAt.of ?a ?l ?c ?k; (case a => k_is); (case l => k_is); (case c => k_is); (case k => k_is)))
    (case d_gate_truth => (refine' Kf.DefAt.of ?a ?l ?c ?k; (case a => k_is); (case l => k_is); (case c => k_is); (case k => k_is)))
    (case d__law_take => (refine' Kf.DefAt.of ?a ?l ?c ?k; (case a => k_is); (case l => k_is); (case c => k_is); (case k => k_is)))
    (case d__law_begin => (refine' Kf.DefAt.of ?a ?l ?c ?k; (case a => k_is); (case l => k_is); (case c => k_is); (case k => k_is)))
    (case d__law_pick => (refine' Kf.DefAt.of ?a ?l ?c ?k; (case a => k_is); (case l => k_is); (case c => k_is); (case k => k_is)))
    (case d__law_mixed => (refine' Kf.DefAt.of ?a ?l ?c ?k; (case a => k_is); (case l => k_is); (case c => k_is); (case k => k_is)))
    (case d__law_words => (refine' Kf.DefAt.of ?a ?l ?c ?k; (case a => k_is); (case l => k_is); (case c => k_is); (case k => k_is)))
    (case d__law_some => (refine' Kf.DefAt.of ?a ?l ?c ?k; (case a => k_is); (case l => k_is); (case c => k_is); (case k => k_is)))
    (case d__law_gate => (refine' Kf.DefAt.of ?a ?l ?c ?k; (case a => k_is); (case l => k_is); (case c => k_is); (case k => k_is)))
    (case d__law_seat => (refine' Kf.DefAt.of ?a ?l ?c ?k; (case a => k_is); (case l => k_is); (case c => k_is); (case k => k_is)))
    (case d__law_truth => (refine' Kf.DefAt.of ?a ?l ?c ?k; (case a => k_is); (case l => k_is); (case c => k_is); (case k => k_is)))
    (case d__law_truths => (refine' Kf.DefAt.of ?a ?l ?c ?k; (case a => k_is); (case l => k_is); (case c => k_is); (case k => k_is)))
    (case d__law_closed => (refine' Kf.DefAt.of ?a ?l ?c ?k; (case a => k_is); (case l => k_is); (case c => k_is); (case k => k_is)))
    (case d__law_fresh => (refine' Kf.DefAt.of ?a ?l ?c ?k; (case a => k_is); (case l => k_is); (case c => k_is); (case k => k_is)))
    (case d__law_plant => (refine' Kf.DefAt.of ?a ?l ?c ?k; (case a => k_is); (case l => k_is); (case c => k_is); (case k => k_is)))
    (case d__law_tuples => (refine' Kf.DefAt.of ?a ?l ?c ?k; (case a => k_is); (case l => k_is); (case c => k_is); (case k => k_is)))
    (case d__law_told => (refine' Kf.DefAt.of ?a ?l ?c ?k; (case a => k_is); (case l => k_is); (case c => k_is); (case k => k_is)))
    (case d__law_made => (refine' Kf.DefAt.of ?a ?l ?c ?k; (case a => k_is); (case l => k_is); (case c => k_is); (case k => k_is)))
    (case d__law_other => (refine' Kf.DefAt.of ?a ?l ?c ?k; (case a => k_is); (case l => k_is); (case c => k_is); (case k => k_is)))
    (case at_ => k_is)
    (case lt => k_is)
    (case ct_ => k_is)
    (case kt => k_is)
    (case th => kernel_rfl)
    (case tn => kernel_rfl)
    (case al => k_is)
    (case ll => k_is)
    (case cl_ => k_is)
    (case kl => k_is)
    (case ao => k_is)
    (case lo => k_is)
    (case co => k_is)
    (case ko => k_is)
    (case aC => k_is)
    (case ai => k_is)
    (case ii => k_is)
    (case li => k_is)
    (case ci => k_is)
    (case ki => k_is)
    (case ae => k_is)
    (case ie => k_is)
    (case ly => k_is)
    (case cy => k_is)
    (case ky => k_is)
    (case pg => k_is)
    (case hd => k_is)
    (case po => k_is)
    (case sa => k_is)
    (case mk => k_is)
    (case kc => k_is)
    (case n_parts => k_is)
    (case n_gates => k_is)
    (case n_causes => k_is)
    (case n_top => k_is)
    (case g_parts => (refine' Kf.GetAt.of ?a ?b ?c ?d ?l ?e; (case a => k_is); (case b => k_is); (case c => k_is); (case d => k_is); (case l => k_is); (case e => k_is)))
    (case g_gates => (refine' Kf.GetAt.of ?a ?b ?c ?d ?l ?e; (case a => k_is); (case b => k_is); (case c => k_is); (case d => k_is); (case l => k_is); (case e => k_is)))
    (case g_causes => (refine' Kf.GetAt.of ?a ?b ?c ?d ?l ?e; (case a => k_is); (case b => k_is); (case c => k_is); (case d => k_is); (case l => k_is); (case e => k_is)))
    (case g_top => (refine' Kf.GetAt.of ?a ?b ?c ?d ?l ?e; (case a => k_is); (case b => k_is); (case c => k_is); (case d => k_is); (case l => k_is); (case e => k_is)))
    (case ne => k_is)
    (case mo => k_is)
    (case q1 => k_is)
    (case q2 => k_is)
    (case q3 => k_is)
    (case nf_NoneType => k_is)
    (case ko_NoneType => kernel_rfl)
    (case nf_int => k_is)
    (case ko_int => kernel_rfl)
    (case nf_str => k_is)
    (case ko_str => kernel_rfl)
    (case nf_tuple => k_is)
    (case ko_tuple => kernel_rfl)
    (case nf_list => k_is)
    (case ko_list => kernel_rfl)
    (case nfo => k_is)
    (case z_isinstance => k_is)
    (case z_str => k_is)
    (case z_int => k_is)
    (case z_bool => k_is)
    (case z_list => k_is)
    (case z_tuple => k_is)
    (case z_dict => k_is)
    (case z_len => k_is)
    (case z_all => k_is)
    (case z_any => k_is)
    (case z_range => k_is)
    (case z_abs => k_is)
    (case z_divmod => k_is)
    (case z_min => k_is)
    (case z_repr => k_is)
    (case z_sorted => k_is)
    (case z_enumerate => k_is)
    (case z_zip => k_is)
    (case z_set => k_is)
    (case v_LETTERS => (refine' Kf.constAt ?a ?r; (case a => k_is); (case r => exact ⟨_, rfl⟩)))
    (case v_MOST_LETTERS => (refine' Kf.constAt ?a ?r; (case a => k_is); (case r => exact ⟨_, rfl⟩)))
    (case v_MOST_PARTS => (refine' Kf.constAt ?a ?r; (case a => k_is); (case r => exact ⟨_, rfl⟩)))
    (case v_MOST_GATES => (refine' Kf.constAt ?a ?r; (case a => k_is); (case r => exact ⟨_, rfl⟩)))
    (case v_MOST_CAUSES => (refine' Kf.constAt ?a ?r; (case a => k_is); (case r => exact ⟨_, rfl⟩)))
#print axioms PySem.Challenge.cw_faultorder_k02_plants_as_made_holds

