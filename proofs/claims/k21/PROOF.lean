import PyProof.Rows.All
import Wide.All
import OpenK.AllK
import Wide.FinOn
import HandS.ForMost
import HandS.WideBits
import HandS.Small
import HandS.IsInst
import HandS.TupAny
import HandS.Deep
import HandS.DictComp
import HandS.Walk
import HandS.DictTup
import HandS.Flow
import HandS.Lambda
import HandS.Nested
import HandS.EndTab
import KE.KEqNest
import PyProof.EqKinds
import PyProof.FactsAll.dict
import PyProof.FactsAll.subtypes
import PyProof.P3In
import PyProof.NeKinds
import PyProof.ReprRoads
import PyProof.ReprBulk
import PyProof.Rows.ReprShort
import PyProof.RowDictHeap
import KE.KDictKeyed
import HandS.TupLen
import HandS.WordsExc
import HandS.Codes
import HandS.Zip0
import KE.GoesMore
import HandS.Style
import KE.KxIndex
import HandS.ExcField
import HandS.ExcIs
import HandS.ExcValue
import HandS.Property
import HandS.MakeKw
import HandS.MakeKwOnly
import PyProof.EqAt
import PyProof.TupleCall
import KE.KFromBytes
import HandS.Base
import HandS.Call
import HandS.List
import HandS.Ends
import HandS.Exc
import HandS.ExcInit
import HandS.NestedK
import HandS.ClsMeth
import HandS.FStr
import KE.KSuper
import KE.KSuperObj
import KE.KExcSuper
import HandS.Words
import HandS.Text
import KE.KNestM
import KE.KLam
import PySem.Challenge.RW_faultorder_k21_machines_played
import HandS.Defaults
import KE.DataCmp
import KE.SortData
import PyProof.Rows.StrMeet
set_option Elab.async false
set_option linter.all false
set_option maxRecDepth 100000
set_option maxHeartbeats 2000000
namespace Kf
open PySem PySem.Spec PyProof.Rows L2 LamX NdefX
/-- all but the tables stay, nothing goes, the tables of T stay tables -/
structure Sm (T : List NTab) (H H' : Hp) : Prop where
  kp : ExtN H H'
  nn : ∀ b, H' b = none → H b = none
  tb : TabsN T H → TabsN T H'
theorem Sm.refl (T : List NTab) (H : Hp) : Sm T H H := ⟨ExtN.refl H, fun _ h => h, id⟩
theorem Sm.trans {T : List NTab} {H H1 H2 : Hp} (a : Sm T H H1) (b : Sm T H1 H2) : Sm T H H2 := ⟨a.kp.trans b.kp, fun x h => a.nn x (b.nn x h), fun t => b.tb (a.tb t)⟩
theorem Same.sm {T : List NTab} {H H' : Hp} (s : Same H H') : Sm T H H' := ⟨ExtN.of s, fun _ h => s.free h, fun t => t.ext s⟩
theorem exl {H H' : Hp} {a : Addr} {o : HO} (s : ExtN H H') (n : ∀ ps, o ≠ .tbl ps) (h : H a = some o) : H' a = some o := s a o h n
theorem ex_sqL {K : PySem.W.Frag} {H H' : Hp} {a : Addr} {xs : List V} (s : ExtN H H') (h : SqL K H a xs) : SqL K H' a xs := by
  rcases h with (h | ⟨o, h⟩) | h
  · exact .inl (.inl (exl s (by intro _ z; cases z) h))
  · exact .inl (.inr ⟨o, exl s (by intro _ z; cases z) h⟩)
  · exact .inr h
theorem ex_sqT {K : PySem.W.Frag} {H H' : Hp} {a : Addr} {xs : List V} (s : ExtN H H') (h : SqT K H a xs) : SqT K H' a xs := by
  rcases h with (h | ⟨o, h⟩) | h
  · exact .inl (.inl (exl s (by intro _ z; cases z) h))
  · exact .inl (.inr ⟨o, exl s (by intro _ z; cases z) h⟩)
  · exact .inr h
theorem ex_rdK {H H' : Hp} {a : Addr} {k : List (Key × V)} (s : ExtN H H') (h : Rd H a (.dK k)) : Rd H' a (.dK k) := by
  rcases h with h | ⟨o, h⟩
  · exact .inl (exl s (by intro _ z; cases z) h)
  · exact .inr ⟨o, exl s (by intro _ z; cases z) h⟩
/-! ## data in the heap -/
def keyD : Key → PyData
  | .inl i => .int i
  | .inr z => .str z
mutual
/-- v is the data d, by the heap S -/
inductive Da (K : PySem.W.Frag) (S : Hp) : V → PyData → Prop
  | non : Da K S .non .none
  | bl (b : Bool) : Da K S (.bl b) (.bool b)
  | int (i : Int) : Da K S (.int i) (.int i)
  | str (z : Str) : Da K S (.str z) (.str z)
  | lst {a : Addr} {xs : List V} {ds : List PyData} : SqL K S a xs → DaAll K S xs ds → Da K S (.ref a) (.list ds)
  | tup {a : Addr} {xs : List V} {ds : List PyData} : SqT K S a xs → DaAll K S xs ds → Da K S (.ref a) (.tuple ds)
  | dct {a : Addr} {kvs : List (Key × V)} {ds : List (PyData × PyData)} : S a = some (.dK kvs) → (kvs.map (·.1)).Nodup → DaKV K S kvs ds → Da K S (.ref a) (.dict ds)
inductive DaAll (K : PySem.W.Frag) (S : Hp) : List V → List PyData → Prop
  | nil : DaAll K S [] []
  | cons {v : V} {vs : List V} {d : PyData} {ds : List PyData} : Da K S v d → DaAll K S vs ds → DaAll K S (v :: vs) (d :: ds)
inductive DaKV (K : PySem.W.Frag) (S : Hp) : List (Key × V) → List (PyData × PyData) → Prop
  | nil : DaKV K S [] []
  | cons {k : Key} {v : V} {kvs : List (Key × V)} {d : PyData} {ds : List (PyData × PyData)} : Da K S v d → DaKV K S kvs ds → DaKV K S ((k, v) :: kvs) ((keyD k, d) :: ds)
end
mutual
theorem Da.sm {K : PySem.W.Frag} {S S' : Hp} (s : ExtN S S') : ∀ {v : V} {d : PyData}, Da K S v d → Da K S' v d
  | _, _, .non => .non
  | _, _, .bl b => .bl b
  | _, _, .int i => .int i
  | _, _, .str z => .str z
  | _, _, .lst h r => .lst (ex_sqL s h) (DaAll.sm s r)
  | _, _, .tup h r => .tup (ex_sqT s h) (DaAll.sm s r)
  | _, _, .dct h n r => .dct (exl s (by intro _ z; cases z) h) n (DaKV.sm s r)
theorem DaAll.sm {K : PySem.W.Frag} {S S' : Hp} (s : ExtN S S') : ∀ {vs : List V} {ds : List PyData}, DaAll K S vs ds → DaAll K S' vs ds
  | _, _, .nil => .nil
  | _, _, .cons h r => .cons (Da.sm s h) (DaAll.sm s r)
theorem DaKV.sm {K : PySem.W.Frag} {S S' : Hp} (s : ExtN S S') : ∀ {vs : List (Key × V)} {ds : List (PyData × PyData)}, DaKV K S vs ds → DaKV K S' vs ds
  | _, _, .nil => .nil
  | _, _, .cons h r => .cons (Da.sm s h) (DaKV.sm s r)
end
section
variable {K : PySem.W.Frag} {S : Hp}
theorem DaAll.len : ∀ {xs : List V} {ds : List PyData}, DaAll K S xs ds → xs.length = ds.length
  | _, _, .nil => rfl
  | _, _, .cons _ r => congrArg (· + 1) (DaAll.len r)
theorem DaAll.get : ∀ {xs : List V} {ds : List PyData}, DaAll K S xs ds → ∀ {i : Nat} {x : V}, xs[i]? = some x → ∃ d, ds[i]? = some d ∧ Da K S x d
  | _, _, .nil, i, x, h => by cases h
  | _, _, .cons d r, 0, x, h => by
    cases h
    exact ⟨_, rfl, d⟩
  | _, _, .cons _ r, i + 1, x, h => DaAll.get r h
theorem DaAll.getD : ∀ {xs : List V} {ds : List PyData}, DaAll K S xs ds → ∀ {i : Nat} {d : PyData}, ds[i]? = some d → ∃ x, xs[i]? = some x ∧ Da K S x d
  | _, _, .nil, i, x, h => by cases h
  | _, _, .cons d r, 0, x, h => by
    cases h
    exact ⟨_, rfl, d⟩
  | _, _, .cons _ r, i + 1, x, h => DaAll.getD r h
theorem DaAll.app : ∀ {xs ys : List V} {ds es : List PyData}, DaAll K S xs ds → DaAll K S ys es → DaAll K S (xs ++ ys) (ds ++ es)
  | _, _, _, _, .nil, h => h
  | _, _, _, _, .cons d r, h => .cons d (DaAll.app r h)
theorem DaAll.take : ∀ {xs : List V} {ds : List PyData} (n : Nat), DaAll K S xs ds → DaAll K S (xs.take n) (ds.take n)
  | _, _, 0, h => by simp; exact .nil
  | _, _, _ + 1, .nil => .nil
  | _, _, n + 1, .cons d r => .cons d (DaAll.take n r)
theorem DaAll.drop : ∀ {xs : List V} {ds : List PyData} (n : Nat), DaAll K S xs ds → DaAll K S (xs.drop n) (ds.drop n)
  | _, _, 0, h => h
  | _, _, _ + 1, .nil => .nil
  | _, _, n + 1, .cons d r => DaAll.drop n r
theorem DaAll.set {v : V} {d : PyData} (hd : Da K S v d) : ∀ {xs : List V} {ds : List PyData} (n : Nat), DaAll K S xs ds → DaAll K S (xs.set n v) (ds.set n d)
  | _, _, _, .nil => .nil
  | _, _, 0, .cons _ r => .cons hd r
  | _, _, n + 1, .cons d r => .cons d (DaAll.set hd n r)
theorem DaAll.erase : ∀ {xs : List V} {ds : List PyData} (n : Nat), DaAll K S xs ds → DaAll K S (xs.eraseIdx n) (ds.eraseIdx n)
  | _, _, _, .nil => .nil
  | _, _, 0, .cons _ r => r
  | _, _, n + 1, .cons d r => .cons d (DaAll.erase n r)
theorem DaAll.rev : ∀ {xs : List V} {ds : List PyData}, DaAll K S xs ds → DaAll K S xs.reverse ds.reverse
  | _, _, .nil => .nil
  | _, _, .cons d r => by
    rw [List.reverse_cons, List.reverse_cons]
    exact (DaAll.rev r).app (.cons d .nil)
theorem DaKV.len : ∀ {xs : List (Key × V)} {ds : List (PyData × PyData)}, DaKV K S xs ds → xs.length = ds.length
  | _, _, .nil => rfl
  | _, _, .cons _ r => congrArg (· + 1) (DaKV.len r)
end
end Kf

set_option Elab.async false
set_option linter.all false
set_option maxRecDepth 100000
set_option maxHeartbeats 2000000
namespace PySem.SeqAt
open AutoSeq1 (wpAny_loadPart')
open MeetsSeq
/-! ## dicts and things of other kinds decline each other -/
theorem dictE_declines_none (b : Addr) (es : Array DictEntry) (n2 : Nat) (dd2 : Option Addr) (sl2 : Array (Option Value))  :
    Meets (Builtin.«dict.__eq__» ⟨[.ref b, .none], []⟩) (fun _ R s => s.heap.get? b = some { cls := .type "dict", dict := dd2, data := .dict es n2, slots := sl2 } ∧ R (.ok (.ret .notImplemented)) s) :=
  .of_wp fun prog w A R s h => by obtain ⟨hp, g, d, tk, os⟩ := s; obtain ⟨hl, h⟩ := h; have f1 := PySem.F.sub_NoneType_dict; wp_walk using wpAny_loadPart' hl; exact ⟨_, rfl, h⟩
theorem none_declines_dictE (b : Addr) (es : Array DictEntry) (n2 : Nat) (dd2 : Option Addr) (sl2 : Array (Option Value))  :
    Meets (Builtin.«NoneType.__eq__» ⟨[.none, .ref b], []⟩) (fun _ R s => s.heap.get? b = some { cls := .type "dict", dict := dd2, data := .dict es n2, slots := sl2 } ∧ R (.ok (.ret .notImplemented)) s) :=
  .of_wp fun prog w A R s h => by obtain ⟨hp, g, d, tk, os⟩ := s; obtain ⟨hl, h⟩ := h; have f1 := PySem.F.sub_dict_NoneType; wp_walk using wpAny_loadPart' hl, wpAny_load hl; exact ⟨_, rfl, h⟩
section
variable {A : Around} {s : Shared}
theorem RcAt.dictE_none {b : Addr} {es : Array DictEntry} {n2 : Nat} {dd2 : Option Addr} {sl2 : Array (Option Value)}  (ho : s.heap.get? b = some { cls := .type "dict", dict := dd2, data := .dict es n2, slots := sl2 }) (hu : A.units < cLine) : RcAt A s (.ref b) (.none) false := fun prog w E Q h =>
  rc_eq_decline_or (k := false) ⟨_, ho, rfl⟩ rfl (by decide) PySem.F.sub_NoneType_dict PySem.F.slot_dict_eq F.slot_NoneType_eq_refl
    (fun _ hq => call_meets PySem.F.slot_dict_eq ⟨_, ho, rfl⟩ PySem.F.entry_dict_eq (PySem.F.args_dict_eq_2 _ _) (dictE_declines_none b es n2 dd2 sl2 ) ⟨ho, hq⟩)
    (fun _ hq => call_meets F.slot_NoneType_eq_refl rfl F.entry_NoneType_eq (F.args_NoneType_eq_2 _ _) (none_declines_dictE b es n2 dd2 sl2 ) ⟨ho, hq⟩)
    (fun _ hq => wpAny_of_eq (rfl : isSame (.ref b) (.none) = pure false) hq) (.inr hu) h
theorem RcAt.none_dictE {b : Addr} {es : Array DictEntry} {n2 : Nat} {dd2 : Option Addr} {sl2 : Array (Option Value)}  (ho : s.heap.get? b = some { cls := .type "dict", dict := dd2, data := .dict es n2, slots := sl2 }) (hu : A.units < cLine) : RcAt A s (.none) (.ref b) false := fun prog w E Q h =>
  rc_eq_decline_or (k := false) rfl ⟨_, ho, rfl⟩ (by decide) PySem.F.sub_dict_NoneType F.slot_NoneType_eq PySem.F.slot_dict_eq_refl
    (fun _ hq => call_meets F.slot_NoneType_eq rfl F.entry_NoneType_eq (F.args_NoneType_eq_2 _ _) (none_declines_dictE b es n2 dd2 sl2 ) ⟨ho, hq⟩)
    (fun _ hq => call_meets PySem.F.slot_dict_eq_refl ⟨_, ho, rfl⟩ PySem.F.entry_dict_eq (PySem.F.args_dict_eq_2 _ _) (dictE_declines_none b es n2 dd2 sl2 ) ⟨ho, hq⟩)
    (fun _ hq => wpAny_of_eq (rfl : isSame (.none) (.ref b) = pure false) hq) (.inr hu) h
theorem EqAt.dictE_none {b : Addr} {es : Array DictEntry} {n2 : Nat} {dd2 : Option Addr} {sl2 : Array (Option Value)}  (ho : s.heap.get? b = some { cls := .type "dict", dict := dd2, data := .dict es n2, slots := sl2 }) (hu : A.units < cLine) : EqAt A s (.ref b) (.none) false := fun prog w E Q h => by
  unfold eqBool
  refine wpAny_holding ?_
  refine wpAny_ite_split (fun hab => absurd (eq_of_beq hab) nofun) (fun _ => ?_)
  exact wpAny_bind (RcAt.dictE_none  ho hu prog w E _ (wpAny_truthy_bool h))
theorem EqAt.none_dictE {b : Addr} {es : Array DictEntry} {n2 : Nat} {dd2 : Option Addr} {sl2 : Array (Option Value)}  (ho : s.heap.get? b = some { cls := .type "dict", dict := dd2, data := .dict es n2, slots := sl2 }) (hu : A.units < cLine) : EqAt A s (.none) (.ref b) false := fun prog w E Q h => by
  unfold eqBool
  refine wpAny_holding ?_
  refine wpAny_ite_split (fun hab => absurd (eq_of_beq hab) nofun) (fun _ => ?_)
  exact wpAny_bind (RcAt.none_dictE  ho hu prog w E _ (wpAny_truthy_bool h))
end
theorem dictE_declines_bool (b : Addr) (es : Array DictEntry) (n2 : Nat) (dd2 : Option Addr) (sl2 : Array (Option Value)) (x : Bool) :
    Meets (Builtin.«dict.__eq__» ⟨[.ref b, .bool x], []⟩) (fun _ R s => s.heap.get? b = some { cls := .type "dict", dict := dd2, data := .dict es n2, slots := sl2 } ∧ R (.ok (.ret .notImplemented)) s) :=
  .of_wp fun prog w A R s h => by obtain ⟨hp, g, d, tk, os⟩ := s; obtain ⟨hl, h⟩ := h; have f1 := PySem.F.sub_bool_dict; wp_walk using wpAny_loadPart' hl; exact ⟨_, rfl, h⟩
theorem bool_declines_dictE (b : Addr) (es : Array DictEntry) (n2 : Nat) (dd2 : Option Addr) (sl2 : Array (Option Value)) (x : Bool) :
    Meets (Builtin.«int.__eq__» ⟨[.bool x, .ref b], []⟩) (fun _ R s => s.heap.get? b = some { cls := .type "dict", dict := dd2, data := .dict es n2, slots := sl2 } ∧ R (.ok (.ret .notImplemented)) s) :=
  .of_wp fun prog w A R s h => by obtain ⟨hp, g, d, tk, os⟩ := s; obtain ⟨hl, h⟩ := h; have f1 := PySem.F.sub_dict_bool; wp_walk using wpAny_loadPart' hl, wpAny_load hl; exact ⟨_, rfl, h⟩
section
variable {A : Around} {s : Shared}
theorem RcAt.dictE_bool {b : Addr} {es : Array DictEntry} {n2 : Nat} {dd2 : Option Addr} {sl2 : Array (Option Value)} (x : Bool) (ho : s.heap.get? b = some { cls := .type "dict", dict := dd2, data := .dict es n2, slots := sl2 }) (hu : A.units < cLine) : RcAt A s (.ref b) (.bool x) false := fun prog w E Q h =>
  rc_eq_decline_or (k := false) ⟨_, ho, rfl⟩ rfl (by decide) PySem.F.sub_bool_dict PySem.F.slot_dict_eq F.slot_bool_eq_refl
    (fun _ hq => call_meets PySem.F.slot_dict_eq ⟨_, ho, rfl⟩ PySem.F.entry_dict_eq (PySem.F.args_dict_eq_2 _ _) (dictE_declines_bool b es n2 dd2 sl2 x) ⟨ho, hq⟩)
    (fun _ hq => call_meets F.slot_bool_eq_refl rfl F.entry_int_eq (F.args_int_eq_2 _ _) (bool_declines_dictE b es n2 dd2 sl2 x) ⟨ho, hq⟩)
    (fun _ hq => wpAny_of_eq (rfl : isSame (.ref b) (.bool x) = pure false) hq) (.inr hu) h
theorem RcAt.bool_dictE {b : Addr} {es : Array DictEntry} {n2 : Nat} {dd2 : Option Addr} {sl2 : Array (Option Value)} (x : Bool) (ho : s.heap.get? b = some { cls := .type "dict", dict := dd2, data := .dict es n2, slots := sl2 }) (hu : A.units < cLine) : RcAt A s (.bool x) (.ref b) false := fun prog w E Q h =>
  rc_eq_decline_or (k := false) rfl ⟨_, ho, rfl⟩ (by decide) PySem.F.sub_dict_bool F.slot_bool_eq PySem.F.slot_dict_eq_refl
    (fun _ hq => call_meets F.slot_bool_eq rfl F.entry_int_eq (F.args_int_eq_2 _ _) (bool_declines_dictE b es n2 dd2 sl2 x) ⟨ho, hq⟩)
    (fun _ hq => call_meets PySem.F.slot_dict_eq_refl ⟨_, ho, rfl⟩ PySem.F.entry_dict_eq (PySem.F.args_dict_eq_2 _ _) (dictE_declines_bool b es n2 dd2 sl2 x) ⟨ho, hq⟩)
    (fun _ hq => wpAny_of_eq (rfl : isSame (.bool x) (.ref b) = pure false) hq) (.inr hu) h
theorem EqAt.dictE_bool {b : Addr} {es : Array DictEntry} {n2 : Nat} {dd2 : Option Addr} {sl2 : Array (Option Value)} (x : Bool) (ho : s.heap.get? b = some { cls := .type "dict", dict := dd2, data := .dict es n2, slots := sl2 }) (hu : A.units < cLine) : EqAt A s (.ref b) (.bool x) false := fun prog w E Q h => by
  unfold eqBool
  refine wpAny_holding ?_
  refine wpAny_ite_split (fun hab => absurd (eq_of_beq hab) nofun) (fun _ => ?_)
  exact wpAny_bind (RcAt.dictE_bool x ho hu prog w E _ (wpAny_truthy_bool h))
theorem EqAt.bool_dictE {b : Addr} {es : Array DictEntry} {n2 : Nat} {dd2 : Option Addr} {sl2 : Array (Option Value)} (x : Bool) (ho : s.heap.get? b = some { cls := .type "dict", dict := dd2, data := .dict es n2, slots := sl2 }) (hu : A.units < cLine) : EqAt A s (.bool x) (.ref b) false := fun prog w E Q h => by
  unfold eqBool
  refine wpAny_holding ?_
  refine wpAny_ite_split (fun hab => absurd (eq_of_beq hab) nofun) (fun _ => ?_)
  exact wpAny_bind (RcAt.bool_dictE x ho hu prog w E _ (wpAny_truthy_bool h))
end
theorem dictE_declines_int (b : Addr) (es : Array DictEntry) (n2 : Nat) (dd2 : Option Addr) (sl2 : Array (Option Value)) (x : Int) (u : Tok) :
    Meets (Builtin.«dict.__eq__» ⟨[.ref b, .int x u], []⟩) (fun _ R s => s.heap.get? b = some { cls := .type "dict", dict := dd2, data := .dict es n2, slots := sl2 } ∧ R (.ok (.ret .notImplemented)) s) :=
  .of_wp fun prog w A R s h => by obtain ⟨hp, g, d, tk, os⟩ := s; obtain ⟨hl, h⟩ := h; have f1 := PySem.F.sub_int_dict; wp_walk using wpAny_loadPart' hl; exact ⟨_, rfl, h⟩
theorem int_declines_dictE (b : Addr) (es : Array DictEntry) (n2 : Nat) (dd2 : Option Addr) (sl2 : Array (Option Value)) (x : Int) (u : Tok) :
    Meets (Builtin.«int.__eq__» ⟨[.int x u, .ref b], []⟩) (fun _ R s => s.heap.get? b = some { cls := .type "dict", dict := dd2, data := .dict es n2, slots := sl2 } ∧ R (.ok (.ret .notImplemented)) s) :=
  .of_wp fun prog w A R s h => by obtain ⟨hp, g, d, tk, os⟩ := s; obtain ⟨hl, h⟩ := h; have f1 := PySem.F.sub_dict_int; wp_walk using wpAny_loadPart' hl, wpAny_load hl; exact ⟨_, rfl, h⟩
section
variable {A : Around} {s : Shared}
theorem RcAt.dictE_int {b : Addr} {es : Array DictEntry} {n2 : Nat} {dd2 : Option Addr} {sl2 : Array (Option Value)} (x : Int) (u : Tok) (ho : s.heap.get? b = some { cls := .type "dict", dict := dd2, data := .dict es n2, slots := sl2 }) (hu : A.units < cLine) : RcAt A s (.ref b) (.int x u) false := fun prog w E Q h =>
  rc_eq_decline_or (k := false) ⟨_, ho, rfl⟩ (typeIs_int s x u) (by decide) PySem.F.sub_int_dict PySem.F.slot_dict_eq F.slot_int_eq_refl
    (fun _ hq => call_meets PySem.F.slot_dict_eq ⟨_, ho, rfl⟩ PySem.F.entry_dict_eq (PySem.F.args_dict_eq_2 _ _) (dictE_declines_int b es n2 dd2 sl2 x u) ⟨ho, hq⟩)
    (fun _ hq => call_meets F.slot_int_eq_refl (typeIs_int s x u) F.entry_int_eq (F.args_int_eq_2 _ _) (int_declines_dictE b es n2 dd2 sl2 x u) ⟨ho, hq⟩)
    (fun _ hq => wpAny_of_eq (rfl : isSame (.ref b) (.int x u) = pure false) hq) (.inr hu) h
theorem RcAt.int_dictE {b : Addr} {es : Array DictEntry} {n2 : Nat} {dd2 : Option Addr} {sl2 : Array (Option Value)} (x : Int) (u : Tok) (ho : s.heap.get? b = some { cls := .type "dict", dict := dd2, data := .dict es n2, slots := sl2 }) (hu : A.units < cLine) : RcAt A s (.int x u) (.ref b) false := fun prog w E Q h =>
  rc_eq_decline_or (k := false) (typeIs_int s x u) ⟨_, ho, rfl⟩ (by decide) PySem.F.sub_dict_int F.slot_int_eq PySem.F.slot_dict_eq_refl
    (fun _ hq => call_meets F.slot_int_eq (typeIs_int s x u) F.entry_int_eq (F.args_int_eq_2 _ _) (int_declines_dictE b es n2 dd2 sl2 x u) ⟨ho, hq⟩)
    (fun _ hq => call_meets PySem.F.slot_dict_eq_refl ⟨_, ho, rfl⟩ PySem.F.entry_dict_eq (PySem.F.args_dict_eq_2 _ _) (dictE_declines_int b es n2 dd2 sl2 x u) ⟨ho, hq⟩)
    (fun _ hq => wpAny_of_eq (rfl : isSame (.int x u) (.ref b) = pure false) hq) (.inr hu) h
theorem EqAt.dictE_int {b : Addr} {es : Array DictEntry} {n2 : Nat} {dd2 : Option Addr} {sl2 : Array (Option Value)} (x : Int) (u : Tok) (ho : s.heap.get? b = some { cls := .type "dict", dict := dd2, data := .dict es n2, slots := sl2 }) (hu : A.units < cLine) : EqAt A s (.ref b) (.int x u) false := fun prog w E Q h => by
  unfold eqBool
  refine wpAny_holding ?_
  refine wpAny_ite_split (fun hab => absurd (eq_of_beq hab) nofun) (fun _ => ?_)
  exact wpAny_bind (RcAt.dictE_int x u ho hu prog w E _ (wpAny_truthy_bool h))
theorem EqAt.int_dictE {b : Addr} {es : Array DictEntry} {n2 : Nat} {dd2 : Option Addr} {sl2 : Array (Option Value)} (x : Int) (u : Tok) (ho : s.heap.get? b = some { cls := .type "dict", dict := dd2, data := .dict es n2, slots := sl2 }) (hu : A.units < cLine) : EqAt A s (.int x u) (.ref b) false := fun prog w E Q h => by
  unfold eqBool
  refine wpAny_holding ?_
  refine wpAny_ite_split (fun hab => absurd (eq_of_beq hab) nofun) (fun _ => ?_)
  exact wpAny_bind (RcAt.int_dictE x u ho hu prog w E _ (wpAny_truthy_bool h))
end
theorem dictE_declines_str (b : Addr) (es : Array DictEntry) (n2 : Nat) (dd2 : Option Addr) (sl2 : Array (Option Value)) (x : Str) (u : Tok) :
    Meets (Builtin.«dict.__eq__» ⟨[.ref b, .str x u], []⟩) (fun _ R s => s.heap.get? b = some { cls := .type "dict", dict := dd2, data := .dict es n2, slots := sl2 } ∧ R (.ok (.ret .notImplemented)) s) :=
  .of_wp fun prog w A R s h => by obtain ⟨hp, g, d, tk, os⟩ := s; obtain ⟨hl, h⟩ := h; have f1 := PySem.F.sub_str_dict; wp_walk using wpAny_loadPart' hl; exact ⟨_, rfl, h⟩
theorem str_declines_dictE (b : Addr) (es : Array DictEntry) (n2 : Nat) (dd2 : Option Addr) (sl2 : Array (Option Value)) (x : Str) (u : Tok) :
    Meets (Builtin.«str.__eq__» ⟨[.str x u, .ref b], []⟩) (fun _ R s => s.heap.get? b = some { cls := .type "dict", dict := dd2, data := .dict es n2, slots := sl2 } ∧ R (.ok (.ret .notImplemented)) s) :=
  .of_wp fun prog w A R s h => by obtain ⟨hp, g, d, tk, os⟩ := s; obtain ⟨hl, h⟩ := h; have f1 := PySem.F.sub_dict_str; wp_walk using wpAny_loadPart' hl, wpAny_load hl; exact ⟨_, rfl, h⟩
section
variable {A : Around} {s : Shared}
theorem RcAt.dictE_str {b : Addr} {es : Array DictEntry} {n2 : Nat} {dd2 : Option Addr} {sl2 : Array (Option Value)} (x : Str) (u : Tok) (ho : s.heap.get? b = some { cls := .type "dict", dict := dd2, data := .dict es n2, slots := sl2 }) (hu : A.units < cLine) : RcAt A s (.ref b) (.str x u) false := fun prog w E Q h =>
  rc_eq_decline_or (k := false) ⟨_, ho, rfl⟩ (typeIs_str s x u) (by decide) PySem.F.sub_str_dict PySem.F.slot_dict_eq F.slot_str_eq_refl
    (fun _ hq => call_meets PySem.F.slot_dict_eq ⟨_, ho, rfl⟩ PySem.F.entry_dict_eq (PySem.F.args_dict_eq_2 _ _) (dictE_declines_str b es n2 dd2 sl2 x u) ⟨ho, hq⟩)
    (fun _ hq => call_meets F.slot_str_eq_refl (typeIs_str s x u) F.entry_str_eq (F.args_str_eq_2 _ _) (str_declines_dictE b es n2 dd2 sl2 x u) ⟨ho, hq⟩)
    (fun _ hq => wpAny_of_eq (rfl : isSame (.ref b) (.str x u) = pure false) hq) (.inr hu) h
theorem RcAt.str_dictE {b : Addr} {es : Array DictEntry} {n2 : Nat} {dd2 : Option Addr} {sl2 : Array (Option Value)} (x : Str) (u : Tok) (ho : s.heap.get? b = some { cls := .type "dict", dict := dd2, data := .dict es n2, slots := sl2 }) (hu : A.units < cLine) : RcAt A s (.str x u) (.ref b) false := fun prog w E Q h =>
  rc_eq_decline_or (k := false) (typeIs_str s x u) ⟨_, ho, rfl⟩ (by decide) PySem.F.sub_dict_str F.slot_str_eq PySem.F.slot_dict_eq_refl
    (fun _ hq => call_meets F.slot_str_eq (typeIs_str s x u) F.entry_str_eq (F.args_str_eq_2 _ _) (str_declines_dictE b es n2 dd2 sl2 x u) ⟨ho, hq⟩)
    (fun _ hq => call_meets PySem.F.slot_dict_eq_refl ⟨_, ho, rfl⟩ PySem.F.entry_dict_eq (PySem.F.args_dict_eq_2 _ _) (dictE_declines_str b es n2 dd2 sl2 x u) ⟨ho, hq⟩)
    (fun _ hq => wpAny_of_eq (rfl : isSame (.str x u) (.ref b) = pure false) hq) (.inr hu) h
theorem EqAt.dictE_str {b : Addr} {es : Array DictEntry} {n2 : Nat} {dd2 : Option Addr} {sl2 : Array (Option Value)} (x : Str) (u : Tok) (ho : s.heap.get? b = some { cls := .type "dict", dict := dd2, data := .dict es n2, slots := sl2 }) (hu : A.units < cLine) : EqAt A s (.ref b) (.str x u) false := fun prog w E Q h => by
  unfold eqBool
  refine wpAny_holding ?_
  refine wpAny_ite_split (fun hab => absurd (eq_of_beq hab) nofun) (fun _ => ?_)
  exact wpAny_bind (RcAt.dictE_str x u ho hu prog w E _ (wpAny_truthy_bool h))
theorem EqAt.str_dictE {b : Addr} {es : Array DictEntry} {n2 : Nat} {dd2 : Option Addr} {sl2 : Array (Option Value)} (x : Str) (u : Tok) (ho : s.heap.get? b = some { cls := .type "dict", dict := dd2, data := .dict es n2, slots := sl2 }) (hu : A.units < cLine) : EqAt A s (.str x u) (.ref b) false := fun prog w E Q h => by
  unfold eqBool
  refine wpAny_holding ?_
  refine wpAny_ite_split (fun hab => absurd (eq_of_beq hab) nofun) (fun _ => ?_)
  exact wpAny_bind (RcAt.str_dictE x u ho hu prog w E _ (wpAny_truthy_bool h))
end
theorem list_declines_dictE (l b : Addr) (items : Array Value) (es : Array DictEntry) (n n2 : Nat) (dd dd2 : Option Addr) (sl sl2 : Array (Option Value)) :
    Meets (Builtin.«list.__eq__» ⟨[.ref l, .ref b], []⟩) (fun _ R s => s.heap.get? l = some { cls := .type "list", dict := dd, data := .seq items n, slots := sl } ∧ s.heap.get? b = some { cls := .type "dict", dict := dd2, data := .dict es n2, slots := sl2 } ∧ R (.ok (.ret .notImplemented)) s) :=
  .of_wp fun prog w A R s h => by obtain ⟨hp, g, d, tk, os⟩ := s; obtain ⟨hl, hb, h⟩ := h; have f1 := PySem.F.sub_dict_list; wp_walk using wpAny_loadPart' hl, wpAny_loadPart' hb; exact ⟨_, rfl, h⟩
theorem dictE_declines_list (l b : Addr) (items : Array Value) (es : Array DictEntry) (n n2 : Nat) (dd dd2 : Option Addr) (sl sl2 : Array (Option Value)) :
    Meets (Builtin.«dict.__eq__» ⟨[.ref b, .ref l], []⟩) (fun _ R s => s.heap.get? l = some { cls := .type "list", dict := dd, data := .seq items n, slots := sl } ∧ s.heap.get? b = some { cls := .type "dict", dict := dd2, data := .dict es n2, slots := sl2 } ∧ R (.ok (.ret .notImplemented)) s) :=
  .of_wp fun prog w A R s h => by obtain ⟨hp, g, d, tk, os⟩ := s; obtain ⟨hl, hb, h⟩ := h; have f1 := PySem.F.sub_list_dict; wp_walk using wpAny_loadPart' hl, wpAny_loadPart' hb; exact ⟨_, rfl, h⟩
section
variable {A : Around} {s : Shared}
theorem RcAt.list_dictE {l : Addr} {items : Array Value} {b : Addr} {es : Array DictEntry} {n2 : Nat} {dd2 : Option Addr} {sl2 : Array (Option Value)} (hl : s.heap.IsList l items) (ho2 : s.heap.get? b = some { cls := .type "dict", dict := dd2, data := .dict es n2, slots := sl2 }) (hu : A.units < cLine) : RcAt A s (.ref l) (.ref b) false := fun prog w E Q h => by
  obtain ⟨⟨cls, dd, data, sl⟩, ho, hc, n, hd⟩ := id hl
  simp only at hc hd
  subst hc hd
  have hne : l ≠ b := fun e => by
    subst e
    rw [ho] at ho2
    exact absurd (congrArg Obj.cls (Option.some.inj ho2)) (by simp)
  exact (rc_eq_decline_or (k := false) ⟨_, ho, rfl⟩ ⟨_, ho2, rfl⟩ (by decide) PySem.F.sub_dict_list F.slot_list_eq PySem.F.slot_dict_eq_refl
    (fun _ hq => call_meets F.slot_list_eq ⟨_, ho, rfl⟩ F.entry_list_eq (F.args_list_eq_2 _ _) (list_declines_dictE l b items es n n2 dd dd2 sl sl2) ⟨ho, ho2, hq⟩)
    (fun _ hq => call_meets PySem.F.slot_dict_eq_refl ⟨_, ho2, rfl⟩ PySem.F.entry_dict_eq (PySem.F.args_dict_eq_2 _ _) (dictE_declines_list l b items es n n2 dd dd2 sl sl2) ⟨ho, ho2, hq⟩)
    (fun _ hq => wpAny_isSame_ref_other' hne ho ho2 (by simp) hq) (.inr hu) h)
theorem RcAt.dictE_list {l : Addr} {items : Array Value} {b : Addr} {es : Array DictEntry} {n2 : Nat} {dd2 : Option Addr} {sl2 : Array (Option Value)} (hl : s.heap.IsList l items) (ho2 : s.heap.get? b = some { cls := .type "dict", dict := dd2, data := .dict es n2, slots := sl2 }) (hu : A.units < cLine) : RcAt A s (.ref b) (.ref l) false := fun prog w E Q h => by
  obtain ⟨⟨cls, dd, data, sl⟩, ho, hc, n, hd⟩ := id hl
  simp only at hc hd
  subst hc hd
  have hne : b ≠ l := fun e => by
    subst e
    rw [ho] at ho2
    exact absurd (congrArg Obj.cls (Option.some.inj ho2)) (by simp)
  exact (rc_eq_decline_or (k := false) ⟨_, ho2, rfl⟩ ⟨_, ho, rfl⟩ (by decide) PySem.F.sub_list_dict PySem.F.slot_dict_eq F.slot_list_eq_refl
    (fun _ hq => call_meets PySem.F.slot_dict_eq ⟨_, ho2, rfl⟩ PySem.F.entry_dict_eq (PySem.F.args_dict_eq_2 _ _) (dictE_declines_list l b items es n n2 dd dd2 sl sl2) ⟨ho, ho2, hq⟩)
    (fun _ hq => call_meets F.slot_list_eq_refl ⟨_, ho, rfl⟩ F.entry_list_eq (F.args_list_eq_2 _ _) (list_declines_dictE l b items es n n2 dd dd2 sl sl2) ⟨ho, ho2, hq⟩)
    (fun _ hq => wpAny_isSame_ref_other' hne ho2 ho (by simp) hq) (.inr hu) h)
theorem EqAt.list_dictE {l : Addr} {items : Array Value} {b : Addr} {es : Array DictEntry} {n2 : Nat} {dd2 : Option Addr} {sl2 : Array (Option Value)} (hl : s.heap.IsList l items) (ho2 : s.heap.get? b = some { cls := .type "dict", dict := dd2, data := .dict es n2, slots := sl2 }) (hu : A.units < cLine) : EqAt A s (.ref l) (.ref b) false :=
  .of_refs (fun e => by
    obtain ⟨o, ho, hc, _⟩ := hl
    rw [e, ho2] at ho
    rw [← Option.some.inj ho] at hc
    exact absurd hc (by simp)) (.list_dictE hl ho2 hu)
theorem EqAt.dictE_list {l : Addr} {items : Array Value} {b : Addr} {es : Array DictEntry} {n2 : Nat} {dd2 : Option Addr} {sl2 : Array (Option Value)} (hl : s.heap.IsList l items) (ho2 : s.heap.get? b = some { cls := .type "dict", dict := dd2, data := .dict es n2, slots := sl2 }) (hu : A.units < cLine) : EqAt A s (.ref b) (.ref l) false :=
  .of_refs (fun e => by
    obtain ⟨o, ho, hc, _⟩ := hl
    rw [← e, ho2] at ho
    rw [← Option.some.inj ho] at hc
    exact absurd hc (by simp)) (.dictE_list hl ho2 hu)
end
theorem tuple_declines_dictE (l b : Addr) (items : Array Value) (es : Array DictEntry) (n n2 : Nat) (dd dd2 : Option Addr) (sl sl2 : Array (Option Value)) :
    Meets (Builtin.«tuple.__eq__» ⟨[.ref l, .ref b], []⟩) (fun _ R s => s.heap.get? l = some { cls := .type "tuple", dict := dd, data := .seq items n, slots := sl } ∧ s.heap.get? b = some { cls := .type "dict", dict := dd2, data := .dict es n2, slots := sl2 } ∧ R (.ok (.ret .notImplemented)) s) :=
  .of_wp fun prog w A R s h => by obtain ⟨hp, g, d, tk, os⟩ := s; obtain ⟨hl, hb, h⟩ := h; have f1 := PySem.F.sub_dict_tuple; wp_walk using wpAny_loadPart' hl, wpAny_loadPart' hb; exact ⟨_, rfl, h⟩
theorem dictE_declines_tuple (l b : Addr) (items : Array Value) (es : Array DictEntry) (n n2 : Nat) (dd dd2 : Option Addr) (sl sl2 : Array (Option Value)) :
    Meets (Builtin.«dict.__eq__» ⟨[.ref b, .ref l], []⟩) (fun _ R s => s.heap.get? l = some { cls := .type "tuple", dict := dd, data := .seq items n, slots := sl } ∧ s.heap.get? b = some { cls := .type "dict", dict := dd2, data := .dict es n2, slots := sl2 } ∧ R (.ok (.ret .notImplemented)) s) :=
  .of_wp fun prog w A R s h => by obtain ⟨hp, g, d, tk, os⟩ := s; obtain ⟨hl, hb, h⟩ := h; have f1 := PySem.F.sub_tuple_dict; wp_walk using wpAny_loadPart' hl, wpAny_loadPart' hb; exact ⟨_, rfl, h⟩
section
variable {A : Around} {s : Shared}
theorem RcAt.tuple_dictE {l : Addr} {items : Array Value} {b : Addr} {es : Array DictEntry} {n2 : Nat} {dd2 : Option Addr} {sl2 : Array (Option Value)} (hl : s.heap.IsTuple l items) (ho2 : s.heap.get? b = some { cls := .type "dict", dict := dd2, data := .dict es n2, slots := sl2 }) (hu : A.units < cLine) : RcAt A s (.ref l) (.ref b) false := fun prog w E Q h => by
  obtain ⟨⟨cls, dd, data, sl⟩, ho, hc, n, hd⟩ := id hl
  simp only at hc hd
  subst hc hd
  have hne : l ≠ b := fun e => by
    subst e
    rw [ho] at ho2
    exact absurd (congrArg Obj.cls (Option.some.inj ho2)) (by simp)
  exact (rc_eq_decline_or (k := false) ⟨_, ho, rfl⟩ ⟨_, ho2, rfl⟩ (by decide) PySem.F.sub_dict_tuple F.slot_tuple_eq PySem.F.slot_dict_eq_refl
    (fun _ hq => call_meets F.slot_tuple_eq ⟨_, ho, rfl⟩ F.entry_tuple_eq (F.args_tuple_eq_2 _ _) (tuple_declines_dictE l b items es n n2 dd dd2 sl sl2) ⟨ho, ho2, hq⟩)
    (fun _ hq => call_meets PySem.F.slot_dict_eq_refl ⟨_, ho2, rfl⟩ PySem.F.entry_dict_eq (PySem.F.args_dict_eq_2 _ _) (dictE_declines_tuple l b items es n n2 dd dd2 sl sl2) ⟨ho, ho2, hq⟩)
    (fun _ hq => wpAny_isSame_ref_other' hne ho ho2 (by simp) hq) (.inr hu) h)
theorem RcAt.dictE_tuple {l : Addr} {items : Array Value} {b : Addr} {es : Array DictEntry} {n2 : Nat} {dd2 : Option Addr} {sl2 : Array (Option Value)} (hl : s.heap.IsTuple l items) (ho2 : s.heap.get? b = some { cls := .type "dict", dict := dd2, data := .dict es n2, slots := sl2 }) (hu : A.units < cLine) : RcAt A s (.ref b) (.ref l) false := fun prog w E Q h => by
  obtain ⟨⟨cls, dd, data, sl⟩, ho, hc, n, hd⟩ := id hl
  simp only at hc hd
  subst hc hd
  have hne : b ≠ l := fun e => by
    subst e
    rw [ho] at ho2
    exact absurd (congrArg Obj.cls (Option.some.inj ho2)) (by simp)
  exact (rc_eq_decline_or (k := false) ⟨_, ho2, rfl⟩ ⟨_, ho, rfl⟩ (by decide) PySem.F.sub_tuple_dict PySem.F.slot_dict_eq F.slot_tuple_eq_refl
    (fun _ hq => call_meets PySem.F.slot_dict_eq ⟨_, ho2, rfl⟩ PySem.F.entry_dict_eq (PySem.F.args_dict_eq_2 _ _) (dictE_declines_tuple l b items es n n2 dd dd2 sl sl2) ⟨ho, ho2, hq⟩)
    (fun _ hq => call_meets F.slot_tuple_eq_refl ⟨_, ho, rfl⟩ F.entry_tuple_eq (F.args_tuple_eq_2 _ _) (tuple_declines_dictE l b items es n n2 dd dd2 sl sl2) ⟨ho, ho2, hq⟩)
    (fun _ hq => wpAny_isSame_ref_other hne ho2 ho (by simp) hq) (.inr hu) h)
theorem EqAt.tuple_dictE {l : Addr} {items : Array Value} {b : Addr} {es : Array DictEntry} {n2 : Nat} {dd2 : Option Addr} {sl2 : Array (Option Value)} (hl : s.heap.IsTuple l items) (ho2 : s.heap.get? b = some { cls := .type "dict", dict := dd2, data := .dict es n2, slots := sl2 }) (hu : A.units < cLine) : EqAt A s (.ref l) (.ref b) false :=
  .of_refs (fun e => by
    obtain ⟨o, ho, hc, _⟩ := hl
    rw [e, ho2] at ho
    rw [← Option.some.inj ho] at hc
    exact absurd hc (by simp)) (.tuple_dictE hl ho2 hu)
theorem EqAt.dictE_tuple {l : Addr} {items : Array Value} {b : Addr} {es : Array DictEntry} {n2 : Nat} {dd2 : Option Addr} {sl2 : Array (Option Value)} (hl : s.heap.IsTuple l items) (ho2 : s.heap.get? b = some { cls := .type "dict", dict := dd2, data := .dict es n2, slots := sl2 }) (hu : A.units < cLine) : EqAt A s (.ref b) (.ref l) false :=
  .of_refs (fun e => by
    obtain ⟨o, ho, hc, _⟩ := hl
    rw [← e, ho2] at ho
    rw [← Option.some.inj ho] at hc
    exact absurd hc (by simp)) (.dictE_tuple hl ho2 hu)
end
end PySem.SeqAt

set_option Elab.async false
set_option linter.all false
set_option maxRecDepth 100000
set_option maxHeartbeats 2000000
namespace Kf
open PySem PySem.Spec PyProof.Rows L2 LamX NdefX
/-! ## == of data -/
def keyB : PyData → PyData → Bool
  | .int i, .int j => i == j
  | .str x, .str y => x == y
  | _, _ => false
def findD (k : PyData) : List (PyData × PyData) → Option PyData
  | [] => none
  | (k', v) :: r => if keyB k' k then some v else findD k r
mutual
/-- Python's == -/
def eqP : PyData → PyData → Bool
  | .none, .none => true
  | .bool a, .bool b => a == b
  | .bool a, .int j => (if a then 1 else 0) == j
  | .int i, .bool b => i == (if b then 1 else 0)
  | .int i, .int j => i == j
  | .str x, .str y => x == y
  | .list xs, .list ys => eqPs xs ys
  | .tuple xs, .tuple ys => eqPs xs ys
  | .dict xs, .dict ys => xs.length == ys.length && eqPk xs ys
  | _, _ => false
def eqPs : List PyData → List PyData → Bool
  | [], [] => true
  | x :: xs, y :: ys => eqP x y && eqPs xs ys
  | _, _ => false
def eqPk : List (PyData × PyData) → List (PyData × PyData) → Bool
  | [], _ => true
  | (k, v) :: r, ys => (match findD k ys with | some y => eqP v y | none => false) && eqPk r ys
end
mutual
/-- how deep -/
def dpD : PyData → Nat
  | .list xs => dpDs xs + 1
  | .tuple xs => dpDs xs + 1
  | .dict xs => dpDk xs + 1
  | _ => 1
def dpDs : List PyData → Nat
  | [] => 0
  | x :: xs => max (dpD x) (dpDs xs)
def dpDk : List (PyData × PyData) → Nat
  | [] => 0
  | (_, v) :: xs => max (dpD v) (dpDk xs)
end
theorem keyB_eq (a b : Key) : keyB (keyD a) (keyD b) = decide (a = b) := by
  cases a with
  | inl i => cases b with
    | inl j =>
      show (i == j) = _
      by_cases h : i = j
      · subst h; simp
      · rw [decide_eq_false (fun e => h (Sum.inl.inj e))]; exact beq_eq_false_iff_ne.mpr h
    | inr y => exact (decide_eq_false (fun e => nomatch e)).symm
  | inr x => cases b with
    | inl j => exact (decide_eq_false (fun e => nomatch e)).symm
    | inr y =>
      show (x == y) = _
      by_cases h : x = y
      · subst h; simp
      · rw [decide_eq_false (fun e => h (Sum.inr.inj e))]; exact beq_eq_false_iff_ne.mpr h
section
variable {K : PySem.W.Frag} {S : Hp}
/-- what a key finds, in the heap and as data -/
theorem DaKV.find : ∀ {kvs : List (Key × V)} {ds : List (PyData × PyData)}, DaKV K S kvs ds → ∀ (k : Key), (∀ v, valV kvs k = some v → ∃ d, findD (keyD k) ds = some d ∧ Da K S v d) ∧ (valV kvs k = none → findD (keyD k) ds = none)
  | _, _, .nil, k => ⟨fun v h => (by cases h), fun _ => rfl⟩
  | _, _, .cons (k := k') (v := v') (kvs := kvs) (d := d') (ds := ds) h r, k => by
    have ih := DaKV.find r k
    have e1 : valV ((k', v') :: kvs) k = if k' = k then some v' else valV kvs k := by
      unfold valV
      rw [List.find?_cons]
      by_cases z : k' = k
      · subst z; simp
      · rw [if_neg z]; simp [z]
    have e2 : findD (keyD k) ((keyD k', d') :: ds) = if k' = k then some d' else findD (keyD k) ds := by
      show (if keyB (keyD k') (keyD k) = true then _ else _) = _
      rw [keyB_eq]
      by_cases z : k' = k
      · rw [if_pos z, if_pos (decide_eq_true z)]
      · rw [if_neg z, if_neg (by simp [z])]
    rw [e1, e2]
    by_cases z : k' = k
    · rw [if_pos z, if_pos z]
      exact ⟨fun v e => ⟨d', rfl, Option.some.inj e ▸ h⟩, fun e => nomatch e⟩
    · rw [if_neg z, if_neg z]
      exact ih
theorem Rd.inj {a : Addr} {k1 k2 : List (Key × V)} (h : S a = some (.dK k1)) (h' : S a = some (.dK k2)) : k1 = k2 := by
  rw [h] at h'; cases h'; rfl
theorem keyD_inj {a b : Key} (h : keyD a = keyD b) : a = b := by
  cases a <;> cases b <;> cases h <;> rfl
end
section
variable {X : Cx} {pins : List (Addr × Obj)} {σ : L2.St} {H : Hp} {s : Shared}
theorem lst_tup_no (I : Inv X pins σ H s) {a : Addr} {xs ys : List V} (h : SqL X.K H a xs) (h' : SqT X.K H a ys) : False := by
  obtain ⟨its, _, p, _⟩ := I.list h
  obtain ⟨its2, _, p2, _⟩ := I.tuple h'
  obtain ⟨o, _, ho, hc, _⟩ := p
  obtain ⟨o2, ho2, hc2, _⟩ := p2
  rw [ho] at ho2
  cases ho2
  rw [hc] at hc2
  exact absurd hc2 (by simp)
theorem dct_obj (I : Inv X pins σ H s) {a : Addr} {kvs : List (Key × V)} (h0 : H a = some (.dK kvs)) : kvs.length ≤ sizeLine ∧ (a == sysModules) = false ∧ (∃ vs, KV kvs vs ∧ s.heap.DictOf (mixKind X.prog X.w) a vs) ∧ ∃ dd es n sl, s.heap.get? a = some { cls := .type "dict", dict := dd, data := .dict es n, slots := sl } := by
  have h : Rd H a (.dK kvs) := .inl h0
  obtain ⟨hz, hs, vs, kv, hd⟩ := h.ok I.hok
  refine ⟨hz, hs, ⟨vs, kv, hd⟩, ?_⟩
  obtain ⟨⟨cls, dd, data, sl⟩, es, ep, ho, hex, hdt, _⟩ := hd
  have hc : cls = .type "dict" := hex.1
  simp only at hdt
  subst hc hdt
  exact ⟨_, _, _, _, ho⟩
mutual
theorem Da.inj (I : Inv X pins σ H s) : ∀ {v : V} {d e : PyData}, Da X.K H v d → Da X.K H v e → d = e
  | _, _, _, .non, h => by cases h; rfl
  | _, _, _, .bl b, h => by cases h; rfl
  | _, _, _, .int i, h => by cases h; rfl
  | _, _, _, .str z, h => by cases h; rfl
  | _, _, _, .lst h r, h' => by
    cases h' with
    | lst g q =>
      obtain rfl := I.list_inj h g
      rw [DaAll.inj I r q]
    | tup g q => exact (lst_tup_no I h g).elim
    | dct g n q =>
      obtain ⟨_, _, _, _, _, _, _, ho⟩ := dct_obj I g
      obtain ⟨_, _, ⟨o, _, ho2, hc, _⟩, _⟩ := I.list h
      rw [ho] at ho2
      cases ho2
      exact absurd hc (by simp)
  | _, _, _, .tup h r, h' => by
    cases h' with
    | tup g q =>
      obtain rfl := I.tuple_inj h g
      rw [DaAll.inj I r q]
    | lst g q => exact (lst_tup_no I g h).elim
    | dct g n q =>
      obtain ⟨_, _, _, _, _, _, _, ho⟩ := dct_obj I g
      obtain ⟨_, _, ⟨o, ho2, hc, _⟩, _⟩ := I.tuple h
      rw [ho] at ho2
      cases ho2
      exact absurd hc (by simp)
  | _, _, _, .dct h n r, h' => by
    cases h' with
    | dct g n' q =>
      obtain rfl := Rd.inj h g
      rw [DaKV.inj I r q]
    | lst g q =>
      obtain ⟨_, _, _, _, _, _, _, ho⟩ := dct_obj I h
      obtain ⟨_, _, ⟨o, _, ho2, hc, _⟩, _⟩ := I.list g
      rw [ho] at ho2
      cases ho2
      exact absurd hc (by simp)
    | tup g q =>
      obtain ⟨_, _, _, _, _, _, _, ho⟩ := dct_obj I h
      obtain ⟨_, _, ⟨o, ho2, hc, _⟩, _⟩ := I.tuple g
      rw [ho] at ho2
      cases ho2
      exact absurd hc (by simp)
theorem DaAll.inj (I : Inv X pins σ H s) : ∀ {vs : List V} {ds es : List PyData}, DaAll X.K H vs ds → DaAll X.K H vs es → ds = es
  | _, _, _, .nil, h => by cases h; rfl
  | _, _, _, .cons h r, h' => by
    cases h' with
    | cons g q => rw [Da.inj I h g, DaAll.inj I r q]
theorem DaKV.inj (I : Inv X pins σ H s) : ∀ {vs : List (Key × V)} {ds es : List (PyData × PyData)}, DaKV X.K H vs ds → DaKV X.K H vs es → ds = es
  | _, _, _, .nil, h => by cases h; rfl
  | _, _, _, .cons h r, h' => by
    cases h' with
    | cons g q => rw [Da.inj I h g, DaKV.inj I r q]
end
end
theorem DaKV.mem {K : PySem.W.Frag} {S : Hp} : ∀ {kvs : List (Key × V)} {ds : List (PyData × PyData)}, DaKV K S kvs ds → ∀ {k : Key} {d : PyData}, (keyD k, d) ∈ ds → k ∈ kvs.map (·.1)
  | _, _, .nil, _, _, h => nomatch h
  | _, _, .cons g q, _, _, h => by
    rcases List.mem_cons.mp h with e | h
    · rw [keyD_inj (congrArg Prod.fst e)]; exact List.mem_cons_self
    · exact List.mem_cons_of_mem _ (DaKV.mem q h)
theorem findD_self {K : PySem.W.Frag} {S : Hp} : ∀ {kvs : List (Key × V)} {ds : List (PyData × PyData)}, DaKV K S kvs ds → (kvs.map (·.1)).Nodup → ∀ k d, (keyD k, d) ∈ ds → findD (keyD k) ds = some d
  | _, _, .nil, _, k, d, h => nomatch h
  | _, _, .cons (k := k') (kvs := kvs) (ds := ds) h r, n, k, d, hm => by
    obtain ⟨n1, n2⟩ := List.nodup_cons.mp (show (k' :: kvs.map (·.1)).Nodup from n)
    show (if keyB (keyD k') (keyD k) = true then _ else _) = _
    rw [keyB_eq]
    by_cases z : k' = k
    · rw [if_pos (decide_eq_true z)]
      rcases List.mem_cons.mp hm with e | hm
      · exact congrArg some (congrArg Prod.snd e).symm
      · exact absurd (z ▸ r.mem hm) n1
    · rw [if_neg (by simp [z])]
      rcases List.mem_cons.mp hm with e | hm
      · exact absurd (keyD_inj (congrArg Prod.fst e)).symm z
      · exact findD_self r n2 k d hm
theorem eqPk_of : ∀ {xs ys : List (PyData × PyData)}, (∀ k v, (k, v) ∈ xs → ∃ y, findD k ys = some y ∧ eqP v y = true) → eqPk xs ys = true
  | [], _, _ => by unfold eqPk; rfl
  | (k, v) :: r, ys, h => by
    unfold eqPk
    obtain ⟨y, e, q⟩ := h k v List.mem_cons_self
    rw [e, eqPk_of fun k v hm => h k v (List.mem_cons_of_mem _ hm)]
    show (eqP v y && true) = true
    rw [q]
    rfl
theorem DaKV.keyOf {K : PySem.W.Frag} {S : Hp} : ∀ {kvs : List (Key × V)} {ds : List (PyData × PyData)}, DaKV K S kvs ds → ∀ k d, (k, d) ∈ ds → ∃ k', k = keyD k'
  | _, _, .nil, _, _, h => nomatch h
  | _, _, .cons h r, k, d, hm => by
    rcases List.mem_cons.mp hm with e | hm
    · exact ⟨_, congrArg Prod.fst e⟩
    · exact DaKV.keyOf r k d hm
mutual
theorem eqP_refl {K : PySem.W.Frag} {S : Hp} : ∀ {v : V} {d : PyData}, Da K S v d → eqP d d = true
  | _, _, .non => by simp [eqP]
  | _, _, .bl b => by simp [eqP]
  | _, _, .int i => by simp [eqP]
  | _, _, .str z => by simp [eqP]
  | _, _, .lst h r => by simp only [eqP]; exact eqPs_refl r
  | _, _, .tup h r => by simp only [eqP]; exact eqPs_refl r
  | _, _, .dct h n r => by
    simp only [eqP, beq_self_eq_true, Bool.true_and]
    refine eqPk_of fun k d hm => ?_
    obtain ⟨k', rfl⟩ := r.keyOf k d hm
    exact ⟨d, findD_self r n k' d hm, eqPk_refl r _ d hm⟩
theorem eqPs_refl {K : PySem.W.Frag} {S : Hp} : ∀ {v : List V} {d : List PyData}, DaAll K S v d → eqPs d d = true
  | _, _, .nil => by simp [eqPs]
  | _, _, .cons h r => by simp only [eqPs, eqP_refl h, eqPs_refl r, Bool.and_self]
theorem eqPk_refl {K : PySem.W.Frag} {S : Hp} : ∀ {v : List (Key × V)} {ds : List (PyData × PyData)}, DaKV K S v ds → ∀ k d, (k, d) ∈ ds → eqP d d = true
  | _, _, .nil, _, _, h => nomatch h
  | _, _, .cons (d := d') h r, k, d, hm => by
    by_cases z : d = d'
    · rw [z]; exact eqP_refl h
    · refine eqPk_refl r k d ?_
      rcases List.mem_cons.mp hm with e | hm
      · exact absurd (congrArg Prod.snd e) z
      · exact hm
end
theorem eqPs_len : ∀ {xs ys : List PyData}, xs.length ≠ ys.length → eqPs xs ys = false
  | [], [], h => absurd rfl h
  | [], _ :: _, _ => by simp [eqPs]
  | _ :: _, [], _ => by simp [eqPs]
  | x :: xs, y :: ys, h => by
    simp only [eqPs]
    rw [eqPs_len (xs := xs) (ys := ys) (by simpa using h)]
    simp
theorem eqPs_range : ∀ {xs ys : List PyData}, xs.length = ys.length → eqPs xs ys = (List.range xs.length).all fun i => eqP (xs.getD i .none) (ys.getD i .none)
  | [], [], _ => by simp [eqPs]
  | [], _ :: _, h => nomatch h
  | _ :: _, [], h => nomatch h
  | x :: xs, y :: ys, h => by
    have ih := eqPs_range (xs := xs) (ys := ys) (by simpa using h)
    simp only [eqPs]
    rw [ih, List.length_cons, List.range_succ_eq_map, List.all_cons, List.all_map]
    rfl
section
variable {X : Cx} {pins : List (Addr × Obj)} {σ : L2.St} {H : Hp} {s : Shared}
open PySem.W PySem.SeqAt
theorem Vals.at_ {xs : List V} {us : List Value} (r : Vals xs us) {i : Nat} {u : Value} (h : us[i]? = some u) : ∃ x, xs[i]? = some x ∧ RelV x u := by
  cases e : xs[i]? with
  | none => rw [r.none_of e] at h; cases h
  | some x =>
    obtain ⟨u', h1, h2⟩ := r.get e
    rw [h] at h1
    cases h1
    exact ⟨x, rfl, h2⟩
theorem kv_at {κ : Type} [DecidableEq κ] : ∀ {kvs : List (κ × V)} {vs : List (κ × Value)}, KV kvs vs → ∀ k, (∀ u, valueAt vs k = some u → ∃ v, valV kvs k = some v ∧ RelV v u) ∧ (valueAt vs k = none → valV kvs k = none)
  | _, _, .nil, k => ⟨fun u h => (by cases h), fun _ => rfl⟩
  | _, _, .cons (a := (k', v')) (b := (k2, u')) (l₁ := kvs) (l₂ := vs) h r, k => by
    have ih := kv_at r k
    obtain ⟨e0, rv⟩ := h
    simp only at e0 rv
    subst e0
    have e1 : valV ((k', v') :: kvs) k = if k' = k then some v' else valV kvs k := by
      unfold valV
      rw [List.find?_cons]
      by_cases z : k' = k
      · subst z; simp
      · rw [if_neg z]; simp [z]
    have e2 : valueAt ((k', u') :: vs) k = if k' = k then some u' else valueAt vs k := by
      unfold valueAt
      rw [List.find?_cons]
      by_cases z : k' = k
      · subst z; simp
      · rw [if_neg z]; simp [z]
    rw [e1, e2]
    by_cases z : k' = k
    · rw [if_pos z, if_pos z]
      exact ⟨fun u e => ⟨v', rfl, Option.some.inj e ▸ rv⟩, fun e => nomatch e⟩
    · rw [if_neg z, if_neg z]
      exact ih

theorem eqPk_all {K : PySem.W.Frag} {S : Hp} {e : Key → Bool} : ∀ {kvs : List (Key × V)} {ds : List (PyData × PyData)} {vs : List (Key × Value)} {es : List (PyData × PyData)} {kb : List (Key × Value)}, DaKV K S kvs ds → KV kvs vs →
    (∀ k, (valueAt kb k).isSome = (findD (keyD k) es).isSome) → (∀ k d y, (keyD k, d) ∈ ds → findD (keyD k) es = some y → e k = eqP d y) → (vs.all fun p => (valueAt kb p.1).isSome && e p.1) = eqPk ds es
  | _, _, _, _, _, .nil, .nil, _, _ => by unfold eqPk; rfl
  | _, _, _, es, kb, .cons (k := k) (d := d) h r, .cons (b := (k2, u)) h2 r2, h3, h4 => by
    have ih := eqPk_all (kb := kb) (es := es) (e := e) r r2 h3 fun k d y hm => h4 k d y (List.mem_cons_of_mem _ hm)
    have e1 : k = k2 := h2.1
    subst e1
    unfold eqPk
    rw [List.all_cons, ih]
    have q := h3 k
    cases e2 : findD (keyD k) es with
    | none =>
      rw [e2] at q
      show ((valueAt kb k).isSome && e k && _) = _
      rw [q]
      rfl
    | some y =>
      rw [e2] at q
      show ((valueAt kb k).isSome && e k && _) = _
      rw [q, h4 k d y List.mem_cons_self e2]
      rfl
theorem kvAt_mem : ∀ {kvs : List (Key × V)} {vs : List (Key × Value)}, KV kvs vs → ∀ {k u}, (k, u) ∈ vs → ∃ x, (k, x) ∈ kvs ∧ RelV x u
  | _, _, .nil, _, _, h => nomatch h
  | _, _, .cons (a := (k', v')) (b := (k2, u')) h r, k, u, hm => by
    obtain ⟨e, rv⟩ := h
    simp only at e rv
    rcases List.mem_cons.mp hm with e2 | hm
    · obtain ⟨rfl, rfl⟩ := Prod.mk.inj e2
      exact ⟨v', by rw [e]; exact List.mem_cons_self, rv⟩
    · obtain ⟨x, h1, h2⟩ := kvAt_mem r hm
      exact ⟨x, List.mem_cons_of_mem _ h1, h2⟩
theorem getD_of {ds : List PyData} {i : Nat} {d : PyData} (h : ds[i]? = some d) : ds.getD i .none = d := by
  rw [List.getD_eq_getElem?_getD, h]
  rfl
mutual
theorem tree_da (I : Inv X pins σ H s) : ∀ {x : V} {d : PyData}, Da X.K H x d → ∀ {y : V} {e : PyData} {v u : Value} (n : Nat), Da X.K H y e → RelV x v → RelV y u → dpD d ≤ n → EqTree X.prog X.w s n v u (eqP d e)
  | _, _, .non, y, e, v, u, n, he, rx, ry, hn => by
    obtain rfl : v = .none := rx
    have hn1 : 1 ≤ n := by simpa [dpD] using hn
    cases he with
    | non => cases (show u = .none from ry); simp only [eqP]; exact .same
    | bl b => cases (show u = .bool b from ry); simp only [eqP]; exact .leaf fun A _ => .none_bool b
    | int i => obtain ⟨t, rfl⟩ := ry; simp only [eqP]; exact .leaf fun A _ => .none_int i t
    | str z => obtain ⟨t, rfl⟩ := ry; simp only [eqP]; exact .leaf fun A _ => .none_str z t
    | lst g q => cases ry; obtain ⟨_, _, hl, _⟩ := I.list g; simp only [eqP]; exact .leaf fun A hu => .none_list hl.isList (by omega)
    | tup g q => cases ry; obtain ⟨_, _, hl, _⟩ := I.tuple g; simp only [eqP]; exact .leaf fun A hu => .none_tuple hl (by omega)
    | dct g _ q => cases ry; obtain ⟨_, _, _, _, _, _, _, ho⟩ := dct_obj I g; simp only [eqP]; exact .leaf fun A hu => .none_dictE ho (by omega)
  | _, _, .bl a, y, e, v, u, n, he, rx, ry, hn => by
    obtain rfl : v = .bool a := rx
    have hn1 : 1 ≤ n := by simpa [dpD] using hn
    cases he with
    | non => cases (show u = .none from ry); simp only [eqP]; exact .leaf fun A _ => .bool_none a
    | bl b => cases (show u = .bool b from ry); simp only [eqP]; exact .leaf fun A _ => .bool_bool a b
    | int i => obtain ⟨t, rfl⟩ := ry; simp only [eqP]; exact .leaf fun A _ => .bool_int a i t
    | str z => obtain ⟨t, rfl⟩ := ry; simp only [eqP]; exact .leaf fun A _ => .bool_str a z t
    | lst g q => cases ry; obtain ⟨_, _, hl, _⟩ := I.list g; simp only [eqP]; exact .leaf fun A hu => .bool_list a hl.isList (by omega)
    | tup g q => cases ry; obtain ⟨_, _, hl, _⟩ := I.tuple g; simp only [eqP]; exact .leaf fun A hu => .bool_tuple a hl (by omega)
    | dct g _ q => cases ry; obtain ⟨_, _, _, _, _, _, _, ho⟩ := dct_obj I g; simp only [eqP]; exact .leaf fun A hu => .bool_dictE a ho (by omega)
  | _, _, .int a, y, e, v, u, n, he, rx, ry, hn => by
    obtain ⟨ta, rfl⟩ := rx
    have hn1 : 1 ≤ n := by simpa [dpD] using hn
    cases he with
    | non => cases (show u = .none from ry); simp only [eqP]; exact .leaf fun A _ => .int_none a ta
    | bl b => cases (show u = .bool b from ry); simp only [eqP]; exact .leaf fun A _ => .int_bool a ta b
    | int i => obtain ⟨t, rfl⟩ := ry; simp only [eqP]; exact .leaf fun A _ => .int_int a ta i t
    | str z => obtain ⟨t, rfl⟩ := ry; simp only [eqP]; exact .leaf fun A _ => .int_str a ta z t
    | lst g q => cases ry; obtain ⟨_, _, hl, _⟩ := I.list g; simp only [eqP]; exact .leaf fun A hu => .int_list a ta hl.isList (by omega)
    | tup g q => cases ry; obtain ⟨_, _, hl, _⟩ := I.tuple g; simp only [eqP]; exact .leaf fun A hu => .int_tuple a ta hl (by omega)
    | dct g _ q => cases ry; obtain ⟨_, _, _, _, _, _, _, ho⟩ := dct_obj I g; simp only [eqP]; exact .leaf fun A hu => .int_dictE a ta ho (by omega)
  | _, _, .str a, y, e, v, u, n, he, rx, ry, hn => by
    obtain ⟨ta, rfl⟩ := rx
    have hn1 : 1 ≤ n := by simpa [dpD] using hn
    cases he with
    | non => cases (show u = .none from ry); simp only [eqP]; exact .leaf fun A _ => .str_none a ta
    | bl b => cases (show u = .bool b from ry); simp only [eqP]; exact .leaf fun A _ => .str_bool a ta b
    | int i => obtain ⟨t, rfl⟩ := ry; simp only [eqP]; exact .leaf fun A _ => .str_int a ta i t
    | str z => obtain ⟨t, rfl⟩ := ry; simp only [eqP]; exact .leaf fun A _ => .str_str a ta z t
    | lst g q => cases ry; obtain ⟨_, _, hl, _⟩ := I.list g; simp only [eqP]; exact .leaf fun A hu => .str_list a ta hl.isList (by omega)
    | tup g q => cases ry; obtain ⟨_, _, hl, _⟩ := I.tuple g; simp only [eqP]; exact .leaf fun A hu => .str_tuple a ta hl (by omega)
    | dct g _ q => cases ry; obtain ⟨_, _, _, _, _, _, _, ho⟩ := dct_obj I g; simp only [eqP]; exact .leaf fun A hu => .str_dictE a ta ho (by omega)
  | .ref a, .list ds, .lst h r, y, e, v, u, n, he, rx, ry, hn => by
    obtain rfl : v = .ref a := rx
    have hn1 : dpDs ds + 1 ≤ n := by simpa [dpD] using hn
    obtain ⟨its, rv, hl, hz⟩ := I.list h
    cases he with
    | non => cases (show u = .none from ry); simp only [eqP]; exact .leaf fun A hu => .list_none hl.isList (by omega)
    | bl b => cases (show u = .bool b from ry); simp only [eqP]; exact .leaf fun A hu => .list_bool b hl.isList (by omega)
    | int i => obtain ⟨t, rfl⟩ := ry; simp only [eqP]; exact .leaf fun A hu => .list_int i t hl.isList (by omega)
    | str z => obtain ⟨t, rfl⟩ := ry; simp only [eqP]; exact .leaf fun A hu => .list_str z t hl.isList (by omega)
    | @lst b xs es g q =>
      obtain rfl : u = .ref b := ry
      obtain ⟨its2, rv2, hl2, hz2⟩ := I.list g
      simp only [eqP]
      by_cases ab : a = b
      · subst ab
        have e1 := Da.inj I (.lst h r) (.lst g q)
        cases e1
        rw [eqPs_refl r]
        exact .same
      · have l1 := rv.length
        have l2 := rv2.length
        have d1 := r.len
        have d2 := q.len
        by_cases hlen : ds.length = es.length
        · rw [eqPs_range hlen]
          obtain ⟨m, rfl⟩ : ∃ m, n = m + 1 := ⟨n - 1, by omega⟩
          have t := EqTree.lists (prog := X.prog) (w := X.w) (n := m) (e := fun i => eqP (ds.getD i .none) (es.getD i .none)) ab hl.isList hl2.isList (by simp; omega) fun j h1 h2 => by
            refine tree_all I r m q rv rv2 (by omega) j (by simp at h1; simpa using List.getElem?_eq_getElem h1) (by simp at h2; simpa using List.getElem?_eq_getElem h2)
          have e2 : its.toArray.size = ds.length := by simp; omega
          rw [e2] at t
          exact t
        · rw [eqPs_len hlen]
          obtain ⟨m, rfl⟩ : ∃ m, n = m + 1 := ⟨n - 1, by omega⟩
          refine .listsLen ab hl.isList hl2.isList ?_
          simp only [List.size_toArray, bne_iff_ne, ne_eq]
          omega
    | @tup b xs es g q =>
      obtain rfl : u = .ref b := ry
      obtain ⟨its2, rv2, hl2, hz2⟩ := I.tuple g
      simp only [eqP]
      exact .leaf fun A hu => .list_tuple hl.isList hl2 (by omega)
    | dct g _ q => cases ry; obtain ⟨_, _, _, _, _, _, _, ho⟩ := dct_obj I g; simp only [eqP]; exact .leaf fun A hu => .list_dictE hl.isList ho (by omega)
  | .ref a, .tuple ds, .tup h r, y, e, v, u, n, he, rx, ry, hn => by
    obtain rfl : v = .ref a := rx
    have hn1 : dpDs ds + 1 ≤ n := by simpa [dpD] using hn
    obtain ⟨its, rv, hl, hz⟩ := I.tuple h
    cases he with
    | non => cases (show u = .none from ry); simp only [eqP]; exact .leaf fun A hu => .tuple_none hl (by omega)
    | bl b => cases (show u = .bool b from ry); simp only [eqP]; exact .leaf fun A hu => .tuple_bool b hl (by omega)
    | int i => obtain ⟨t, rfl⟩ := ry; simp only [eqP]; exact .leaf fun A hu => .tuple_int i t hl (by omega)
    | str z => obtain ⟨t, rfl⟩ := ry; simp only [eqP]; exact .leaf fun A hu => .tuple_str z t hl (by omega)
    | @lst b xs es g q =>
      obtain rfl : u = .ref b := ry
      obtain ⟨its2, rv2, hl2, hz2⟩ := I.list g
      simp only [eqP]
      exact .leaf fun A hu => .tuple_list hl hl2.isList (by omega)
    | @tup b xs es g q =>
      obtain rfl : u = .ref b := ry
      obtain ⟨its2, rv2, hl2, hz2⟩ := I.tuple g
      simp only [eqP]
      by_cases ab : a = b
      · subst ab
        have e1 := Da.inj I (.tup h r) (.tup g q)
        cases e1
        rw [eqPs_refl r]
        exact .same
      · have l1 := rv.length
        have l2 := rv2.length
        have d1 := r.len
        have d2 := q.len
        obtain ⟨m, rfl⟩ : ∃ m, n = m + 1 := ⟨n - 1, by omega⟩
        have t := EqTree.tuples (prog := X.prog) (w := X.w) (n := m) (e := fun i => eqP (ds.getD i .none) (es.getD i .none)) ab hl hl2 fun j h1 h2 => by
          refine tree_all I r m q rv rv2 (by omega) j (by simp at h1; simpa using List.getElem?_eq_getElem h1) (by simp at h2; simpa using List.getElem?_eq_getElem h2)
        by_cases hlen : ds.length = es.length
        · rw [eqPs_range hlen]
          have e2 : min its.toArray.size its2.toArray.size = ds.length := by simp; omega
          have e3 : (its.toArray.size == its2.toArray.size) = true := by simp; omega
          rw [e2, e3, Bool.and_true] at t
          exact t
        · rw [eqPs_len hlen]
          have e3 : (its.toArray.size == its2.toArray.size) = false := by simp; omega
          rw [e3, Bool.and_false] at t
          exact t
    | dct g _ q => cases ry; obtain ⟨_, _, _, _, _, _, _, ho⟩ := dct_obj I g; simp only [eqP]; exact .leaf fun A hu => .tuple_dictE hl ho (by omega)
  | .ref a, .dict ds, .dct h nd r, y, e, v, u, n, he, rx, ry, hn => by
    obtain rfl : v = .ref a := rx
    have hn1 : dpDk ds + 1 ≤ n := by simpa [dpD] using hn
    obtain ⟨hz, hs, ⟨vs, kv, hd⟩, _, _, _, _, ho⟩ := dct_obj I h
    cases he with
    | non => cases (show u = .none from ry); simp only [eqP]; exact .leaf fun A hu => .dictE_none ho (by omega)
    | bl b => cases (show u = .bool b from ry); simp only [eqP]; exact .leaf fun A hu => .dictE_bool b ho (by omega)
    | int i => obtain ⟨t, rfl⟩ := ry; simp only [eqP]; exact .leaf fun A hu => .dictE_int i t ho (by omega)
    | str z => obtain ⟨t, rfl⟩ := ry; simp only [eqP]; exact .leaf fun A hu => .dictE_str z t ho (by omega)
    | lst g q =>
      cases ry
      obtain ⟨its2, rv2, hl2, hz2⟩ := I.list g
      simp only [eqP]
      exact .leaf fun A hu => .dictE_list hl2.isList ho (by omega)
    | tup g q =>
      cases ry
      obtain ⟨its2, rv2, hl2, hz2⟩ := I.tuple g
      simp only [eqP]
      exact .leaf fun A hu => .dictE_tuple hl2 ho (by omega)
    | @dct b kvs2 es g nd2 q =>
      obtain rfl : u = .ref b := ry
      obtain ⟨hz2, hs2, ⟨vs2, kv2, hd2⟩, _⟩ := dct_obj I g
      by_cases ab : a = b
      · subst ab
        have e1 := Da.inj I (.dct h nd r) (.dct g nd2 q)
        cases e1
        rw [eqP_refl (.dct h nd r)]
        exact .same
      · obtain ⟨m, rfl⟩ : ∃ m, n = m + 1 := ⟨n - 1, by omega⟩
        let ef : Key → Bool := fun k => match findD (keyD k) ds, findD (keyD k) es with | some d, some y => eqP d y | _, _ => false
        have t := EqTree.dicts (prog := X.prog) (w := X.w) (n := m) (e := ef) ab hs hs2 hd hd2 fun k v y hm hv => by
          obtain ⟨y', hy, ry'⟩ := (kv_at kv2 k).1 y hv
          obtain ⟨e2, he2, da2⟩ := (q.find k).1 y' hy
          obtain ⟨x', hx, rx'⟩ := kvAt_mem kv hm
          obtain ⟨d', hd', ht⟩ := tree_kv I r m (by omega) hx rx'
          have e3 : findD (keyD k) ds = some d' := findD_self r nd k d' hd'
          show EqTree _ _ _ _ _ _ (match findD (keyD k) ds, findD (keyD k) es with | some d, some y => eqP d y | _, _ => false)
          rw [e3, he2]
          exact ht da2 ry'
        have e5 : (vs.all fun p => (valueAt vs2 p.1).isSome && ef p.1) = eqPk ds es := by
          refine eqPk_all r kv (fun k => ?_) fun k d y hm hy => ?_
          · cases e6 : valueAt vs2 k with
            | none =>
              rw [(q.find k).2 ((kv_at kv2 k).2 e6)]
              rfl
            | some y =>
              obtain ⟨y', hy, _⟩ := (kv_at kv2 k).1 y e6
              obtain ⟨e2, he2, _⟩ := (q.find k).1 y' hy
              rw [he2]
              rfl
          · show (match findD (keyD k) ds, findD (keyD k) es with | some d, some y => eqP d y | _, _ => false) = _
            rw [findD_self r nd k d hm, hy]
        rw [e5] at t
        have e6 : vs.length = ds.length := by rw [← r.len]; exact (Paired.length kv).symm
        have e7 : vs2.length = es.length := by rw [← q.len]; exact (Paired.length kv2).symm
        rw [e6, e7] at t
        have e8 : eqP (.dict ds) (.dict es) = (ds.length == es.length && eqPk ds es) := by simp only [eqP]
        rw [e8]
        exact t
theorem tree_all (I : Inv X pins σ H s) : ∀ {xs : List V} {ds : List PyData}, DaAll X.K H xs ds → ∀ {ys : List V} {es : List PyData} {us ws : List Value} (n : Nat), DaAll X.K H ys es → Vals xs us → Vals ys ws → dpDs ds ≤ n → ∀ j {u w : Value}, us[j]? = some u → ws[j]? = some w →
    EqTree X.prog X.w s n u w (eqP (ds.getD j .none) (es.getD j .none))
  | _, _, .nil, ys, es, us, ws, n, he, r1, r2, hn, j, u, w, h1, h2 => by
    cases r1
    cases h1
  | _, _, .cons (d := d') (ds := ds') h r, ys, es, us, ws, n, he, r1, r2, hn, j, u, w, h1, h2 => by
    cases r1 with
    | cons a1 t1 =>
    cases he with
    | nil => cases r2; cases h2
    | cons g q =>
      cases r2 with
      | cons a2 t2 =>
      have hn1 : dpD d' ≤ n ∧ dpDs ds' ≤ n := by
        unfold dpDs at hn
        exact ⟨Nat.le_trans (Nat.le_max_left _ _) hn, Nat.le_trans (Nat.le_max_right _ _) hn⟩
      cases j with
      | zero =>
        cases h1
        cases h2
        exact tree_da I h n g a1 a2 hn1.1
      | succ j => exact tree_all I r n q t1 t2 hn1.2 j (by simpa using h1) (by simpa using h2)
theorem tree_kv (I : Inv X pins σ H s) : ∀ {kvs : List (Key × V)} {ds : List (PyData × PyData)}, DaKV X.K H kvs ds → ∀ (n : Nat), dpDk ds ≤ n → ∀ {k : Key} {x : V} {v : Value}, (k, x) ∈ kvs → RelV x v →
    ∃ d, (keyD k, d) ∈ ds ∧ ∀ {y : V} {e : PyData} {u : Value}, Da X.K H y e → RelV y u → EqTree X.prog X.w s n v u (eqP d e)
  | _, _, .nil, n, hn, k, x, v, h, rx => nomatch h
  | _, _, .cons (k := k') (v := v') (d := d') (ds := ds') h r, n, hn, k, x, v, hm, rx => by
    have hn1 : dpD d' ≤ n ∧ dpDk ds' ≤ n := by
      unfold dpDk at hn
      exact ⟨Nat.le_trans (Nat.le_max_left _ _) hn, Nat.le_trans (Nat.le_max_right _ _) hn⟩
    by_cases z : k = k' ∧ x = v'
    · obtain ⟨rfl, rfl⟩ := z
      exact ⟨d', List.mem_cons_self, fun g ry => tree_da I h n g rx ry hn1.1⟩
    · rcases List.mem_cons.mp hm with e | hm
      · exact absurd (Prod.mk.inj e) z
      · obtain ⟨d, h1, h2⟩ := tree_kv I r n hn1.2 hm rx
        exact ⟨d, List.mem_cons_of_mem _ h1, h2⟩
end
end
end Kf

set_option Elab.async false
set_option linter.all false
set_option maxRecDepth 100000
set_option maxHeartbeats 2000000
namespace Kf
open PySem PySem.Spec PyProof.Rows L2 LamX NdefX
mutual
/-- no dict in it -/
def nodct : PyData → Bool
  | .dict _ => false
  | .list xs => nodcts xs
  | .tuple xs => nodcts xs
  | _ => true
def nodcts : List PyData → Bool
  | [] => true
  | x :: xs => nodct x && nodcts xs
end
theorem nodcts_hd {x : PyData} {xs : List PyData} (h : nodcts (x :: xs) = true) : nodct x = true := by
  simp only [nodcts, Bool.and_eq_true] at h
  exact h.1
theorem nodcts_tl {x : PyData} {xs : List PyData} (h : nodcts (x :: xs) = true) : nodcts xs = true := by
  simp only [nodcts, Bool.and_eq_true] at h
  exact h.2
theorem nodcts_hdq {x y : PyData} {xs ys : List PyData} (h : nodcts (x :: xs) = true ∨ nodcts (y :: ys) = true) : nodct x = true ∨ nodct y = true := h.imp nodcts_hd nodcts_hd
theorem nodcts_tlq {x y : PyData} {xs ys : List PyData} (h : nodcts (x :: xs) = true ∨ nodcts (y :: ys) = true) : nodcts xs = true ∨ nodcts ys = true := h.imp nodcts_tl nodcts_tl
def isDct : PyData → Bool
  | .dict _ => true
  | _ => false
section
variable {X : Cx} {pins : List (Addr × Obj)} {σ : L2.St} {H : Hp} {s : Shared}
open PySem.W PySem.SeqAt
mutual
theorem eqAt_da (I : Inv X pins σ H s) : ∀ {x : V} {d : PyData}, Da X.K H x d → ∀ {y : V} {e : PyData} {v u : Value} (n : Nat), Da X.K H y e → RelV x v → RelV y u → dpD d ≤ n → (nodct d = true ∨ nodct e = true) → ∀ A : Around, A.units + n < cLine → EqAt A s v u (eqP d e)
  | _, _, .non, y, e, v, u, n, he, rx, ry, hn, nq, A, hA => by
    obtain rfl : v = .none := rx
    have hn1 : 1 ≤ n := by simpa [dpD] using hn
    cases he with
    | non => cases (show u = .none from ry); simp only [eqP]; exact EqAt.same _
    | bl b => cases (show u = .bool b from ry); simp only [eqP]; exact EqAt.none_bool b
    | int i => obtain ⟨t, rfl⟩ := ry; simp only [eqP]; exact EqAt.none_int i t
    | str z => obtain ⟨t, rfl⟩ := ry; simp only [eqP]; exact EqAt.none_str z t
    | lst g q => cases ry; obtain ⟨_, _, hl, _⟩ := I.list g; simp only [eqP]; exact EqAt.none_list hl.isList (by omega)
    | tup g q => cases ry; obtain ⟨_, _, hl, _⟩ := I.tuple g; simp only [eqP]; exact EqAt.none_tuple hl (by omega)
    | dct g _ q => cases ry; obtain ⟨_, _, _, _, _, _, _, ho⟩ := dct_obj I g; simp only [eqP]; exact EqAt.none_dictE ho (by omega)
  | _, _, .bl a, y, e, v, u, n, he, rx, ry, hn, nq, A, hA => by
    obtain rfl : v = .bool a := rx
    have hn1 : 1 ≤ n := by simpa [dpD] using hn
    cases he with
    | non => cases (show u = .none from ry); simp only [eqP]; exact EqAt.bool_none a
    | bl b => cases (show u = .bool b from ry); simp only [eqP]; exact EqAt.bool_bool a b
    | int i => obtain ⟨t, rfl⟩ := ry; simp only [eqP]; exact EqAt.bool_int a i t
    | str z => obtain ⟨t, rfl⟩ := ry; simp only [eqP]; exact EqAt.bool_str a z t
    | lst g q => cases ry; obtain ⟨_, _, hl, _⟩ := I.list g; simp only [eqP]; exact EqAt.bool_list a hl.isList (by omega)
    | tup g q => cases ry; obtain ⟨_, _, hl, _⟩ := I.tuple g; simp only [eqP]; exact EqAt.bool_tuple a hl (by omega)
    | dct g _ q => cases ry; obtain ⟨_, _, _, _, _, _, _, ho⟩ := dct_obj I g; simp only [eqP]; exact EqAt.bool_dictE a ho (by omega)
  | _, _, .int a, y, e, v, u, n, he, rx, ry, hn, nq, A, hA => by
    obtain ⟨ta, rfl⟩ := rx
    have hn1 : 1 ≤ n := by simpa [dpD] using hn
    cases he with
    | non => cases (show u = .none from ry); simp only [eqP]; exact EqAt.int_none a ta
    | bl b => cases (show u = .bool b from ry); simp only [eqP]; exact EqAt.int_bool a ta b
    | int i => obtain ⟨t, rfl⟩ := ry; simp only [eqP]; exact EqAt.int_int a ta i t
    | str z => obtain ⟨t, rfl⟩ := ry; simp only [eqP]; exact EqAt.int_str a ta z t
    | lst g q => cases ry; obtain ⟨_, _, hl, _⟩ := I.list g; simp only [eqP]; exact EqAt.int_list a ta hl.isList (by omega)
    | tup g q => cases ry; obtain ⟨_, _, hl, _⟩ := I.tuple g; simp only [eqP]; exact EqAt.int_tuple a ta hl (by omega)
    | dct g _ q => cases ry; obtain ⟨_, _, _, _, _, _, _, ho⟩ := dct_obj I g; simp only [eqP]; exact EqAt.int_dictE a ta ho (by omega)
  | _, _, .str a, y, e, v, u, n, he, rx, ry, hn, nq, A, hA => by
    obtain ⟨ta, rfl⟩ := rx
    have hn1 : 1 ≤ n := by simpa [dpD] using hn
    cases he with
    | non => cases (show u = .none from ry); simp only [eqP]; exact EqAt.str_none a ta
    | bl b => cases (show u = .bool b from ry); simp only [eqP]; exact EqAt.str_bool a ta b
    | int i => obtain ⟨t, rfl⟩ := ry; simp only [eqP]; exact EqAt.str_int a ta i t
    | str z => obtain ⟨t, rfl⟩ := ry; simp only [eqP]; exact EqAt.str_str a ta z t
    | lst g q => cases ry; obtain ⟨_, _, hl, _⟩ := I.list g; simp only [eqP]; exact EqAt.str_list a ta hl.isList (by omega)
    | tup g q => cases ry; obtain ⟨_, _, hl, _⟩ := I.tuple g; simp only [eqP]; exact EqAt.str_tuple a ta hl (by omega)
    | dct g _ q => cases ry; obtain ⟨_, _, _, _, _, _, _, ho⟩ := dct_obj I g; simp only [eqP]; exact EqAt.str_dictE a ta ho (by omega)
  | .ref a, .list ds, .lst h r, y, e, v, u, n, he, rx, ry, hn, nq, A, hA => by
    obtain rfl : v = .ref a := rx
    have hn1 : dpDs ds + 1 ≤ n := by simpa [dpD] using hn
    obtain ⟨its, rv, hl, hz⟩ := I.list h
    cases he with
    | non => cases (show u = .none from ry); simp only [eqP]; exact EqAt.list_none hl.isList (by omega)
    | bl b => cases (show u = .bool b from ry); simp only [eqP]; exact EqAt.list_bool b hl.isList (by omega)
    | int i => obtain ⟨t, rfl⟩ := ry; simp only [eqP]; exact EqAt.list_int i t hl.isList (by omega)
    | str z => obtain ⟨t, rfl⟩ := ry; simp only [eqP]; exact EqAt.list_str z t hl.isList (by omega)
    | @lst b xs es g q =>
      obtain rfl : u = .ref b := ry
      obtain ⟨its2, rv2, hl2, hz2⟩ := I.list g
      simp only [eqP]
      by_cases ab : a = b
      · subst ab
        have e1 := Da.inj I (.lst h r) (.lst g q)
        cases e1
        rw [eqPs_refl r]
        exact EqAt.same _
      · have l1 := rv.length
        have l2 := rv2.length
        have d1 := r.len
        have d2 := q.len
        by_cases hlen : ds.length = es.length
        · rw [eqPs_range hlen]
          obtain ⟨m, rfl⟩ : ∃ m, n = m + 1 := ⟨n - 1, by omega⟩
          have t := EqAt.of_refs ab (RcAt.lists (A := A) (e := fun i => eqP (ds.getD i .none) (es.getD i .none)) hl.isList hl2.isList (by simp; omega) (by omega) fun j h1 h2 => by
            refine eqAt_all I r m q rv rv2 (by omega) j (by simp at h1; simpa using List.getElem?_eq_getElem h1) (by simp at h2; simpa using List.getElem?_eq_getElem h2) (by simpa [nodct] using nq) A.in1 (by show A.units + 1 + m < cLine; omega))
          have e2 : its.toArray.size = ds.length := by simp; omega
          rw [e2] at t
          exact t
        · rw [eqPs_len hlen]
          obtain ⟨m, rfl⟩ : ∃ m, n = m + 1 := ⟨n - 1, by omega⟩
          refine EqAt.of_refs ab (RcAt.lists_lengths (A := A) hl.isList hl2.isList ?_ (by omega))
          simp only [List.size_toArray, bne_iff_ne, ne_eq]
          omega
    | @tup b xs es g q =>
      obtain rfl : u = .ref b := ry
      obtain ⟨its2, rv2, hl2, hz2⟩ := I.tuple g
      simp only [eqP]
      exact EqAt.list_tuple hl.isList hl2 (by omega)
    | dct g _ q => cases ry; obtain ⟨_, _, _, _, _, _, _, ho⟩ := dct_obj I g; simp only [eqP]; exact EqAt.list_dictE hl.isList ho (by omega)
  | .ref a, .tuple ds, .tup h r, y, e, v, u, n, he, rx, ry, hn, nq, A, hA => by
    obtain rfl : v = .ref a := rx
    have hn1 : dpDs ds + 1 ≤ n := by simpa [dpD] using hn
    obtain ⟨its, rv, hl, hz⟩ := I.tuple h
    cases he with
    | non => cases (show u = .none from ry); simp only [eqP]; exact EqAt.tuple_none hl (by omega)
    | bl b => cases (show u = .bool b from ry); simp only [eqP]; exact EqAt.tuple_bool b hl (by omega)
    | int i => obtain ⟨t, rfl⟩ := ry; simp only [eqP]; exact EqAt.tuple_int i t hl (by omega)
    | str z => obtain ⟨t, rfl⟩ := ry; simp only [eqP]; exact EqAt.tuple_str z t hl (by omega)
    | @lst b xs es g q =>
      obtain rfl : u = .ref b := ry
      obtain ⟨its2, rv2, hl2, hz2⟩ := I.list g
      simp only [eqP]
      exact EqAt.tuple_list hl hl2.isList (by omega)
    | @tup b xs es g q =>
      obtain rfl : u = .ref b := ry
      obtain ⟨its2, rv2, hl2, hz2⟩ := I.tuple g
      simp only [eqP]
      by_cases ab : a = b
      · subst ab
        have e1 := Da.inj I (.tup h r) (.tup g q)
        cases e1
        rw [eqPs_refl r]
        exact EqAt.same _
      · have l1 := rv.length
        have l2 := rv2.length
        have d1 := r.len
        have d2 := q.len
        obtain ⟨m, rfl⟩ : ∃ m, n = m + 1 := ⟨n - 1, by omega⟩
        have t := EqAt.of_refs ab (RcAt.tuples (A := A) (e := fun i => eqP (ds.getD i .none) (es.getD i .none)) hl hl2 (by omega) fun j h1 h2 => by
          refine eqAt_all I r m q rv rv2 (by omega) j (by simp at h1; simpa using List.getElem?_eq_getElem h1) (by simp at h2; simpa using List.getElem?_eq_getElem h2) (by simpa [nodct] using nq) A.in1 (by show A.units + 1 + m < cLine; omega))
        by_cases hlen : ds.length = es.length
        · rw [eqPs_range hlen]
          have e2 : min its.toArray.size its2.toArray.size = ds.length := by simp; omega
          have e3 : (its.toArray.size == its2.toArray.size) = true := by simp; omega
          rw [e2, e3, Bool.and_true] at t
          exact t
        · rw [eqPs_len hlen]
          have e3 : (its.toArray.size == its2.toArray.size) = false := by simp; omega
          rw [e3, Bool.and_false] at t
          exact t
    | dct g _ q => cases ry; obtain ⟨_, _, _, _, _, _, _, ho⟩ := dct_obj I g; simp only [eqP]; exact EqAt.tuple_dictE hl ho (by omega)
  | .ref a, .dict ds, .dct h nd r, y, e, v, u, n, he, rx, ry, hn, nq, A, hA => by
    obtain rfl : v = .ref a := rx
    have hn1 : dpDk ds + 1 ≤ n := by simpa [dpD] using hn
    obtain ⟨hz, hs, ⟨vs, kv, hd⟩, _, _, _, _, ho⟩ := dct_obj I h
    cases he with
    | non => cases (show u = .none from ry); simp only [eqP]; exact EqAt.dictE_none ho (by omega)
    | bl b => cases (show u = .bool b from ry); simp only [eqP]; exact EqAt.dictE_bool b ho (by omega)
    | int i => obtain ⟨t, rfl⟩ := ry; simp only [eqP]; exact EqAt.dictE_int i t ho (by omega)
    | str z => obtain ⟨t, rfl⟩ := ry; simp only [eqP]; exact EqAt.dictE_str z t ho (by omega)
    | lst g q =>
      cases ry
      obtain ⟨its2, rv2, hl2, hz2⟩ := I.list g
      simp only [eqP]
      exact EqAt.dictE_list hl2.isList ho (by omega)
    | tup g q =>
      cases ry
      obtain ⟨its2, rv2, hl2, hz2⟩ := I.tuple g
      simp only [eqP]
      exact EqAt.dictE_tuple hl2 ho (by omega)
    | dct g _ q => rcases nq with z | z <;> cases z
theorem eqAt_all (I : Inv X pins σ H s) : ∀ {xs : List V} {ds : List PyData}, DaAll X.K H xs ds → ∀ {ys : List V} {es : List PyData} {us ws : List Value} (n : Nat), DaAll X.K H ys es → Vals xs us → Vals ys ws → dpDs ds ≤ n → ∀ j {u w : Value}, us[j]? = some u → ws[j]? = some w →
    (nodcts ds = true ∨ nodcts es = true) → ∀ A : Around, A.units + n < cLine → EqAt A s u w (eqP (ds.getD j .none) (es.getD j .none))
  | _, _, .nil, ys, es, us, ws, n, he, r1, r2, hn, j, u, w, h1, h2, nq, A, hA => by
    cases r1
    cases h1
  | _, _, .cons (d := d') (ds := ds') h r, ys, es, us, ws, n, he, r1, r2, hn, j, u, w, h1, h2, nq, A, hA => by
    cases r1 with
    | cons a1 t1 =>
    cases he with
    | nil => cases r2; cases h2
    | cons g q =>
      cases r2 with
      | cons a2 t2 =>
      have hn1 : dpD d' ≤ n ∧ dpDs ds' ≤ n := by
        unfold dpDs at hn
        exact ⟨Nat.le_trans (Nat.le_max_left _ _) hn, Nat.le_trans (Nat.le_max_right _ _) hn⟩
      cases j with
      | zero =>
        cases h1
        cases h2
        exact eqAt_da I h n g a1 a2 hn1.1 (nodcts_hdq nq) A hA
      | succ j => exact eqAt_all I r n q t1 t2 hn1.2 j (by simpa using h1) (by simpa using h2) (nodcts_tlq nq) A hA
end

theorem eqP_dicts {a b : Addr} {kvs kvs2 : List (Key × V)} {ds es : List (PyData × PyData)} {Q : Value → Shared → Prop} {E : Value → Shared → Prop} (I : Inv X pins σ H s) (h : H a = some (.dK kvs)) (nd : (kvs.map (·.1)).Nodup) (r : DaKV X.K H kvs ds) (g : H b = some (.dK kvs2)) (nd2 : (kvs2.map (·.1)).Nodup) (q : DaKV X.K H kvs2 es)
    (hu : X.A.units + 64 < cLine) (hn : dpDk ds ≤ 60) (hq : Q (.bool (eqP (.dict ds) (.dict es))) s) : wpAny (model X.prog X.w) X.A (compareOp .Eq (.ref a) (.ref b)) Q E s := by
  obtain ⟨hz, hs, ⟨vs, kv, hd⟩, _, _, _, _, ho⟩ := dct_obj I h
  obtain ⟨hz2, hs2, ⟨vs2, kv2, hd2⟩, _⟩ := dct_obj I g
  let ef : Key → Bool := fun k => match findD (keyD k) ds, findD (keyD k) es with | some d, some y => eqP d y | _, _ => false
  refine eq_dictsT (n := 60) (e := ef) hs hs2 hd hd2 (fun k v y hm hv => ?_) (by omega) ?_
  · obtain ⟨y', hy, ry'⟩ := (kv_at kv2 k).1 y hv
    obtain ⟨e2, he2, da2⟩ := (q.find k).1 y' hy
    obtain ⟨x', hx, rx'⟩ := kvAt_mem kv hm
    obtain ⟨d', hd', ht⟩ := tree_kv I r 60 hn hx rx'
    have e3 : findD (keyD k) ds = some d' := findD_self r nd k d' hd'
    show EqTree _ _ _ _ _ _ (match findD (keyD k) ds, findD (keyD k) es with | some d, some y => eqP d y | _, _ => false)
    rw [e3, he2]
    exact ht da2 ry'
  · have e5 : (vs.all fun p => (valueAt vs2 p.1).isSome && ef p.1) = eqPk ds es := by
      refine eqPk_all r kv (fun k => ?_) fun k d y hm hy => ?_
      · cases e6 : valueAt vs2 k with
        | none =>
          rw [(q.find k).2 ((kv_at kv2 k).2 e6)]
          rfl
        | some y =>
          obtain ⟨y', hy, _⟩ := (kv_at kv2 k).1 y e6
          obtain ⟨e2, he2, _⟩ := (q.find k).1 y' hy
          rw [he2]
          rfl
      · show (match findD (keyD k) ds, findD (keyD k) es with | some d, some y => eqP d y | _, _ => false) = _
        rw [findD_self r nd k d hm, hy]
    have e6 : vs.length = ds.length := by rw [← r.len]; exact (Paired.length kv).symm
    have e7 : vs2.length = es.length := by rw [← q.len]; exact (Paired.length kv2).symm
    have e8 : eqP (.dict ds) (.dict es) = (ds.length == es.length && eqPk ds es) := by simp only [eqP]
    rw [e5, e6, e7, ← e8]
    exact hq
def rEqP (K : PySem.W.Frag) : R2 := fun x y H Q => ∃ d e, Da K H x d ∧ Da K H y e ∧ dpD d ≤ 60 ∧ Q (.bl (eqP d e)) H
def rNeP (K : PySem.W.Frag) : R2 := fun x y H Q => ∃ d e, Da K H x d ∧ Da K H y e ∧ (isDct d = false ∧ isDct e = false ∧ (nodct d = true ∨ nodct e = true) ∧ dpD d ≤ 60) ∧ Q (.bl (!eqP d e)) H
end
section
variable {X : Cx}
open PySem.W PySem.SeqAt
theorem op_EqP (hu : X.A.units + 64 < cLine) : OpR X (compareOp .Eq) (rEqP X.K) := by
  intro pins s σ H x y v u Q I rx ry hh
  obtain ⟨d, e, hd0, he0, hc, q0⟩ := hh
  have hu1 : X.A.units < cLine := by omega
  have fin : ∀ {b : Bool}, b = eqP d e → EP X pins σ Q (.bool b) s := fun z => ⟨.bl _, H, I, rfl, by rw [z]; exact q0⟩
  cases hd0 with
  | non =>
    obtain rfl : v = .none := rx
    cases he0 with
    | non =>
      obtain rfl : u = .none := ry
      exact RcAt.none_none _ _ _ _ (fin (by simp only [eqP]))
    | bl b =>
      obtain rfl : u = .bool b := ry
      exact (RcAt.none_bool b) _ _ _ _ (fin (by simp only [eqP]))
    | int b =>
      obtain ⟨tb, rfl⟩ := ry
      exact (RcAt.none_int b tb) _ _ _ _ (fin (by simp only [eqP]))
    | str b =>
      obtain ⟨tb, rfl⟩ := ry
      exact (RcAt.none_str b tb) _ _ _ _ (fin (by simp only [eqP]))
    | @lst b ys es g q =>
      obtain rfl : u = .ref b := ry; obtain ⟨its2, rv2, hl2, hz2⟩ := I.list g
      exact (RcAt.none_list hl2.isList hu1) _ _ _ _ (fin (by simp only [eqP]))
    | @tup b ys es g q =>
      obtain rfl : u = .ref b := ry; obtain ⟨its2, rv2, hl2, hz2⟩ := I.tuple g
      exact (RcAt.none_tuple hl2 hu1) _ _ _ _ (fin (by simp only [eqP]))
    | @dct b kvs2 es g nd2 q =>
      obtain rfl : u = .ref b := ry; obtain ⟨hz2, hs2, ⟨vs2, kv2, hd2⟩, _, _, _, _, ho2⟩ := dct_obj I g
      exact (RcAt.none_dictE ho2 hu1) _ _ _ _ (fin (by simp only [eqP]))
  | bl a =>
    obtain rfl : v = .bool a := rx
    cases he0 with
    | non =>
      obtain rfl : u = .none := ry
      exact (RcAt.bool_none a) _ _ _ _ (fin (by simp only [eqP]))
    | bl b =>
      obtain rfl : u = .bool b := ry
      exact (RcAt.bool_bool a b) _ _ _ _ (fin (by simp only [eqP]))
    | int b =>
      obtain ⟨tb, rfl⟩ := ry
      exact (RcAt.bool_int a b tb) _ _ _ _ (fin (by simp only [eqP]))
    | str b =>
      obtain ⟨tb, rfl⟩ := ry
      exact (RcAt.bool_str a b tb) _ _ _ _ (fin (by simp only [eqP]))
    | @lst b ys es g q =>
      obtain rfl : u = .ref b := ry; obtain ⟨its2, rv2, hl2, hz2⟩ := I.list g
      exact (RcAt.bool_list a hl2.isList hu1) _ _ _ _ (fin (by simp only [eqP]))
    | @tup b ys es g q =>
      obtain rfl : u = .ref b := ry; obtain ⟨its2, rv2, hl2, hz2⟩ := I.tuple g
      exact (RcAt.bool_tuple a hl2 hu1) _ _ _ _ (fin (by simp only [eqP]))
    | @dct b kvs2 es g nd2 q =>
      obtain rfl : u = .ref b := ry; obtain ⟨hz2, hs2, ⟨vs2, kv2, hd2⟩, _, _, _, _, ho2⟩ := dct_obj I g
      exact (RcAt.bool_dictE a ho2 hu1) _ _ _ _ (fin (by simp only [eqP]))
  | int a =>
    obtain ⟨ta, rfl⟩ := rx
    cases he0 with
    | non =>
      obtain rfl : u = .none := ry
      exact (RcAt.int_none a ta) _ _ _ _ (fin (by simp only [eqP]))
    | bl b =>
      obtain rfl : u = .bool b := ry
      exact (RcAt.int_bool a ta b) _ _ _ _ (fin (by simp only [eqP]))
    | int b =>
      obtain ⟨tb, rfl⟩ := ry
      exact (RcAt.int_int a ta b tb) _ _ _ _ (fin (by simp only [eqP]))
    | str b =>
      obtain ⟨tb, rfl⟩ := ry
      exact (RcAt.int_str a ta b tb) _ _ _ _ (fin (by simp only [eqP]))
    | @lst b ys es g q =>
      obtain rfl : u = .ref b := ry; obtain ⟨its2, rv2, hl2, hz2⟩ := I.list g
      exact (RcAt.int_list a ta hl2.isList hu1) _ _ _ _ (fin (by simp only [eqP]))
    | @tup b ys es g q =>
      obtain rfl : u = .ref b := ry; obtain ⟨its2, rv2, hl2, hz2⟩ := I.tuple g
      exact (RcAt.int_tuple a ta hl2 hu1) _ _ _ _ (fin (by simp only [eqP]))
    | @dct b kvs2 es g nd2 q =>
      obtain rfl : u = .ref b := ry; obtain ⟨hz2, hs2, ⟨vs2, kv2, hd2⟩, _, _, _, _, ho2⟩ := dct_obj I g
      exact (RcAt.int_dictE a ta ho2 hu1) _ _ _ _ (fin (by simp only [eqP]))
  | str a =>
    obtain ⟨ta, rfl⟩ := rx
    cases he0 with
    | non =>
      obtain rfl : u = .none := ry
      exact (RcAt.str_none a ta) _ _ _ _ (fin (by simp only [eqP]))
    | bl b =>
      obtain rfl : u = .bool b := ry
      exact (RcAt.str_bool a ta b) _ _ _ _ (fin (by simp only [eqP]))
    | int b =>
      obtain ⟨tb, rfl⟩ := ry
      exact (RcAt.str_int a ta b tb) _ _ _ _ (fin (by simp only [eqP]))
    | str b =>
      obtain ⟨tb, rfl⟩ := ry
      exact (RcAt.str_str a ta b tb) _ _ _ _ (fin (by simp only [eqP]))
    | @lst b ys es g q =>
      obtain rfl : u = .ref b := ry; obtain ⟨its2, rv2, hl2, hz2⟩ := I.list g
      exact (RcAt.str_list a ta hl2.isList hu1) _ _ _ _ (fin (by simp only [eqP]))
    | @tup b ys es g q =>
      obtain rfl : u = .ref b := ry; obtain ⟨its2, rv2, hl2, hz2⟩ := I.tuple g
      exact (RcAt.str_tuple a ta hl2 hu1) _ _ _ _ (fin (by simp only [eqP]))
    | @dct b kvs2 es g nd2 q =>
      obtain rfl : u = .ref b := ry; obtain ⟨hz2, hs2, ⟨vs2, kv2, hd2⟩, _, _, _, _, ho2⟩ := dct_obj I g
      exact (RcAt.str_dictE a ta ho2 hu1) _ _ _ _ (fin (by simp only [eqP]))
  | @lst a xs ds h r =>
    obtain rfl : v = .ref a := rx; obtain ⟨its, rv, hl, hz⟩ := I.list h
    cases he0 with
    | non =>
      obtain rfl : u = .none := ry
      exact (RcAt.list_none hl.isList hu1) _ _ _ _ (fin (by simp only [eqP]))
    | bl b =>
      obtain rfl : u = .bool b := ry
      exact (RcAt.list_bool b hl.isList hu1) _ _ _ _ (fin (by simp only [eqP]))
    | int b =>
      obtain ⟨tb, rfl⟩ := ry
      exact (RcAt.list_int b tb hl.isList hu1) _ _ _ _ (fin (by simp only [eqP]))
    | str b =>
      obtain ⟨tb, rfl⟩ := ry
      exact (RcAt.list_str b tb hl.isList hu1) _ _ _ _ (fin (by simp only [eqP]))
    | @lst b ys es g q =>
      obtain rfl : u = .ref b := ry; obtain ⟨its2, rv2, hl2, hz2⟩ := I.list g
      have l1 := rv.length
      have l2 := rv2.length
      have d1 := r.len
      have d2 := q.len
      by_cases hlen : ds.length = es.length
      · refine rcIn_lists (e := fun i => eqP (ds.getD i .none) (es.getD i .none)) hl.isList hl2.isList (by simp; omega) hu1 (fun j h1 h2 => (tree_all I r 60 q rv rv2 (by simp only [dpD] at hc; omega) j (by simp at h1; simpa using List.getElem?_eq_getElem h1) (by simp at h2; simpa using List.getElem?_eq_getElem h2)).at X.A.in1 (by show X.A.units + 1 + 60 < cLine; omega)) (fin ?_)
        have e2 : its.toArray.size = ds.length := by simp; omega
        rw [e2]
        simp only [eqP]
        exact (eqPs_range hlen).symm
      · refine RcAt.lists_lengths hl.isList hl2.isList (by simp; omega) hu1 _ _ _ _ (fin ?_)
        simp only [eqP]
        exact (eqPs_len hlen).symm
    | @tup b ys es g q =>
      obtain rfl : u = .ref b := ry; obtain ⟨its2, rv2, hl2, hz2⟩ := I.tuple g
      exact (RcAt.list_tuple hl.isList hl2 hu1) _ _ _ _ (fin (by simp only [eqP]))
    | @dct b kvs2 es g nd2 q =>
      obtain rfl : u = .ref b := ry; obtain ⟨hz2, hs2, ⟨vs2, kv2, hd2⟩, _, _, _, _, ho2⟩ := dct_obj I g
      exact (RcAt.list_dictE hl.isList ho2 hu1) _ _ _ _ (fin (by simp only [eqP]))
  | @tup a xs ds h r =>
    obtain rfl : v = .ref a := rx; obtain ⟨its, rv, hl, hz⟩ := I.tuple h
    cases he0 with
    | non =>
      obtain rfl : u = .none := ry
      exact (RcAt.tuple_none hl hu1) _ _ _ _ (fin (by simp only [eqP]))
    | bl b =>
      obtain rfl : u = .bool b := ry
      exact (RcAt.tuple_bool b hl hu1) _ _ _ _ (fin (by simp only [eqP]))
    | int b =>
      obtain ⟨tb, rfl⟩ := ry
      exact (RcAt.tuple_int b tb hl hu1) _ _ _ _ (fin (by simp only [eqP]))
    | str b =>
      obtain ⟨tb, rfl⟩ := ry
      exact (RcAt.tuple_str b tb hl hu1) _ _ _ _ (fin (by simp only [eqP]))
    | @lst b ys es g q =>
      obtain rfl : u = .ref b := ry; obtain ⟨its2, rv2, hl2, hz2⟩ := I.list g
      exact (RcAt.tuple_list hl hl2.isList hu1) _ _ _ _ (fin (by simp only [eqP]))
    | @tup b ys es g q =>
      obtain rfl : u = .ref b := ry; obtain ⟨its2, rv2, hl2, hz2⟩ := I.tuple g
      have l1 := rv.length
      have l2 := rv2.length
      have d1 := r.len
      have d2 := q.len
      refine rcIn_tuples (e := fun i => eqP (ds.getD i .none) (es.getD i .none)) hl hl2 hu1 (fun j h1 h2 => (tree_all I r 60 q rv rv2 (by simp only [dpD] at hc; omega) j (by simp at h1; simpa using List.getElem?_eq_getElem h1) (by simp at h2; simpa using List.getElem?_eq_getElem h2)).at X.A.in1 (by show X.A.units + 1 + 60 < cLine; omega)) (fin ?_)
      simp only [eqP]
      by_cases hlen : ds.length = es.length
      · rw [eqPs_range hlen]
        have e2 : min its.toArray.size its2.toArray.size = ds.length := by simp; omega
        have e3 : (its.toArray.size == its2.toArray.size) = true := by simp; omega
        rw [e2, e3, Bool.and_true]
      · rw [eqPs_len hlen]
        have e3 : (its.toArray.size == its2.toArray.size) = false := by simp; omega
        rw [e3, Bool.and_false]
    | @dct b kvs2 es g nd2 q =>
      obtain rfl : u = .ref b := ry; obtain ⟨hz2, hs2, ⟨vs2, kv2, hd2⟩, _, _, _, _, ho2⟩ := dct_obj I g
      exact (RcAt.tuple_dictE hl ho2 hu1) _ _ _ _ (fin (by simp only [eqP]))
  | @dct a kvs ds h nd r =>
    obtain rfl : v = .ref a := rx; obtain ⟨hz, hs, ⟨vs, kv, hd⟩, _, _, _, _, ho⟩ := dct_obj I h
    cases he0 with
    | non =>
      obtain rfl : u = .none := ry
      exact (RcAt.dictE_none ho hu1) _ _ _ _ (fin (by simp only [eqP]))
    | bl b =>
      obtain rfl : u = .bool b := ry
      exact (RcAt.dictE_bool b ho hu1) _ _ _ _ (fin (by simp only [eqP]))
    | int b =>
      obtain ⟨tb, rfl⟩ := ry
      exact (RcAt.dictE_int b tb ho hu1) _ _ _ _ (fin (by simp only [eqP]))
    | str b =>
      obtain ⟨tb, rfl⟩ := ry
      exact (RcAt.dictE_str b tb ho hu1) _ _ _ _ (fin (by simp only [eqP]))
    | @lst b ys es g q =>
      obtain rfl : u = .ref b := ry; obtain ⟨its2, rv2, hl2, hz2⟩ := I.list g
      exact (RcAt.dictE_list hl2.isList ho hu1) _ _ _ _ (fin (by simp only [eqP]))
    | @tup b ys es g q =>
      obtain rfl : u = .ref b := ry; obtain ⟨its2, rv2, hl2, hz2⟩ := I.tuple g
      exact (RcAt.dictE_tuple hl2 ho hu1) _ _ _ _ (fin (by simp only [eqP]))
    | @dct b kvs2 es g nd2 q =>
      obtain rfl : u = .ref b := ry; obtain ⟨hz2, hs2, ⟨vs2, kv2, hd2⟩, _, _, _, _, ho2⟩ := dct_obj I g
      have t := tree_da I (.dct h nd r) 60 (.dct g nd2 q) (show RelV (.ref a) (.ref a) from rfl) (show RelV (.ref b) (.ref b) from rfl) hc
      refine eqP_dicts I h nd r g nd2 q hu (by have := hc; simp only [dpD] at this; omega) (fin rfl)
theorem op_NeP (hu : X.A.units + 64 < cLine) : OpR X (compareOp .NotEq) (rNeP X.K) := by
  intro pins s σ H x y v u Q I rx ry hh
  obtain ⟨d, e, hd0, he0, hc, q0⟩ := hh
  have hu1 : X.A.units < cLine := by omega
  have fin : ∀ {b : Bool}, b = !eqP d e → EP X pins σ Q (.bool b) s := fun z => ⟨.bl _, H, I, rfl, by rw [z]; exact q0⟩
  cases hd0 with
  | non =>
    obtain rfl : v = .none := rx
    cases he0 with
    | non =>
      obtain rfl : u = .none := ry
      exact RcNeAt.none_none _ _ _ _ (fin (by simp [eqP]))
    | bl b =>
      obtain rfl : u = .bool b := ry
      exact (RcNeAt.none_bool b) _ _ _ _ (fin (by simp [eqP]))
    | int b =>
      obtain ⟨tb, rfl⟩ := ry
      exact (RcNeAt.none_int b tb) _ _ _ _ (fin (by simp [eqP]))
    | str b =>
      obtain ⟨tb, rfl⟩ := ry
      exact (RcNeAt.none_str b tb) _ _ _ _ (fin (by simp [eqP]))
    | @lst b ys es g q =>
      obtain rfl : u = .ref b := ry; obtain ⟨its2, rv2, hl2, hz2⟩ := I.list g
      exact (RcNeAt.none_list hl2.isList hu1) _ _ _ _ (fin (by simp [eqP]))
    | @tup b ys es g q =>
      obtain rfl : u = .ref b := ry; obtain ⟨its2, rv2, hl2, hz2⟩ := I.tuple g
      exact (RcNeAt.none_tuple hl2 hu1) _ _ _ _ (fin (by simp [eqP]))
    | dct g nd2 q => exact absurd hc.2.1 (by simp [isDct])
  | bl a =>
    obtain rfl : v = .bool a := rx
    cases he0 with
    | non =>
      obtain rfl : u = .none := ry
      exact (RcNeAt.bool_none a) _ _ _ _ (fin (by simp [eqP]))
    | bl b =>
      obtain rfl : u = .bool b := ry
      exact (RcNeAt.bool_bool a b) _ _ _ _ (fin (by simp [eqP]))
    | int b =>
      obtain ⟨tb, rfl⟩ := ry
      exact (RcNeAt.bool_int a b tb) _ _ _ _ (fin (by simp [eqP]))
    | str b =>
      obtain ⟨tb, rfl⟩ := ry
      exact (RcNeAt.bool_str a b tb) _ _ _ _ (fin (by simp [eqP]))
    | @lst b ys es g q =>
      obtain rfl : u = .ref b := ry; obtain ⟨its2, rv2, hl2, hz2⟩ := I.list g
      exact (RcNeAt.bool_list a hl2.isList hu1) _ _ _ _ (fin (by simp [eqP]))
    | @tup b ys es g q =>
      obtain rfl : u = .ref b := ry; obtain ⟨its2, rv2, hl2, hz2⟩ := I.tuple g
      exact (RcNeAt.bool_tuple a hl2 hu1) _ _ _ _ (fin (by simp [eqP]))
    | dct g nd2 q => exact absurd hc.2.1 (by simp [isDct])
  | int a =>
    obtain ⟨ta, rfl⟩ := rx
    cases he0 with
    | non =>
      obtain rfl : u = .none := ry
      exact (RcNeAt.int_none a ta) _ _ _ _ (fin (by simp [eqP]))
    | bl b =>
      obtain rfl : u = .bool b := ry
      exact (RcNeAt.int_bool a ta b) _ _ _ _ (fin (by simp [eqP]))
    | int b =>
      obtain ⟨tb, rfl⟩ := ry
      exact (RcNeAt.int_int a ta b tb) _ _ _ _ (fin (by simp [eqP]))
    | str b =>
      obtain ⟨tb, rfl⟩ := ry
      exact (RcNeAt.int_str a ta b tb) _ _ _ _ (fin (by simp [eqP]))
    | @lst b ys es g q =>
      obtain rfl : u = .ref b := ry; obtain ⟨its2, rv2, hl2, hz2⟩ := I.list g
      exact (RcNeAt.int_list a ta hl2.isList hu1) _ _ _ _ (fin (by simp [eqP]))
    | @tup b ys es g q =>
      obtain rfl : u = .ref b := ry; obtain ⟨its2, rv2, hl2, hz2⟩ := I.tuple g
      exact (RcNeAt.int_tuple a ta hl2 hu1) _ _ _ _ (fin (by simp [eqP]))
    | dct g nd2 q => exact absurd hc.2.1 (by simp [isDct])
  | str a =>
    obtain ⟨ta, rfl⟩ := rx
    cases he0 with
    | non =>
      obtain rfl : u = .none := ry
      exact (RcNeAt.str_none a ta) _ _ _ _ (fin (by simp [eqP]))
    | bl b =>
      obtain rfl : u = .bool b := ry
      exact (RcNeAt.str_bool a ta b) _ _ _ _ (fin (by simp [eqP]))
    | int b =>
      obtain ⟨tb, rfl⟩ := ry
      exact (RcNeAt.str_int a ta b tb) _ _ _ _ (fin (by simp [eqP]))
    | str b =>
      obtain ⟨tb, rfl⟩ := ry
      exact (RcNeAt.str_str a ta b tb) _ _ _ _ (fin (by simp [eqP]))
    | @lst b ys es g q =>
      obtain rfl : u = .ref b := ry; obtain ⟨its2, rv2, hl2, hz2⟩ := I.list g
      exact (RcNeAt.str_list a ta hl2.isList hu1) _ _ _ _ (fin (by simp [eqP]))
    | @tup b ys es g q =>
      obtain rfl : u = .ref b := ry; obtain ⟨its2, rv2, hl2, hz2⟩ := I.tuple g
      exact (RcNeAt.str_tuple a ta hl2 hu1) _ _ _ _ (fin (by simp [eqP]))
    | dct g nd2 q => exact absurd hc.2.1 (by simp [isDct])
  | @lst a xs ds h r =>
    obtain rfl : v = .ref a := rx; obtain ⟨its, rv, hl, hz⟩ := I.list h
    cases he0 with
    | non =>
      obtain rfl : u = .none := ry
      exact (RcNeAt.list_none hl.isList hu1) _ _ _ _ (fin (by simp [eqP]))
    | bl b =>
      obtain rfl : u = .bool b := ry
      exact (RcNeAt.list_bool b hl.isList hu1) _ _ _ _ (fin (by simp [eqP]))
    | int b =>
      obtain ⟨tb, rfl⟩ := ry
      exact (RcNeAt.list_int b tb hl.isList hu1) _ _ _ _ (fin (by simp [eqP]))
    | str b =>
      obtain ⟨tb, rfl⟩ := ry
      exact (RcNeAt.list_str b tb hl.isList hu1) _ _ _ _ (fin (by simp [eqP]))
    | @lst b ys es g q =>
      obtain rfl : u = .ref b := ry; obtain ⟨its2, rv2, hl2, hz2⟩ := I.list g
      have l1 := rv.length
      have l2 := rv2.length
      have d1 := r.len
      have d2 := q.len
      by_cases hlen : ds.length = es.length
      · refine RcNeAt.lists (A := X.A) (e := fun i => eqP (ds.getD i .none) (es.getD i .none)) hl.isList hl2.isList (by simp; omega) hu1 (fun j h1 h2 => eqAt_all I r 60 q rv rv2 (by have := hc.2.2.2; simp only [dpD] at this; omega) j (by simp at h1; simpa using List.getElem?_eq_getElem h1) (by simp at h2; simpa using List.getElem?_eq_getElem h2) (by have := hc.2.2.1; simpa [nodct] using this) X.A.in1 (by show X.A.units + 1 + 60 < cLine; omega)) _ _ _ _ (fin ?_)
        have e2 : its.toArray.size = ds.length := by simp; omega
        rw [e2]
        simp only [eqP]
        rw [eqPs_range hlen]
      · refine RcNeAt.lists_lengths hl.isList hl2.isList (by simp; omega) hu1 _ _ _ _ (fin ?_)
        simp only [eqP]
        rw [eqPs_len hlen]
        rfl
    | @tup b ys es g q =>
      obtain rfl : u = .ref b := ry; obtain ⟨its2, rv2, hl2, hz2⟩ := I.tuple g
      exact (RcNeAt.list_tuple hl.isList hl2 hu1) _ _ _ _ (fin (by simp [eqP]))
    | dct g nd2 q => exact absurd hc.2.1 (by simp [isDct])
  | @tup a xs ds h r =>
    obtain rfl : v = .ref a := rx; obtain ⟨its, rv, hl, hz⟩ := I.tuple h
    cases he0 with
    | non =>
      obtain rfl : u = .none := ry
      exact (RcNeAt.tuple_none hl hu1) _ _ _ _ (fin (by simp [eqP]))
    | bl b =>
      obtain rfl : u = .bool b := ry
      exact (RcNeAt.tuple_bool b hl hu1) _ _ _ _ (fin (by simp [eqP]))
    | int b =>
      obtain ⟨tb, rfl⟩ := ry
      exact (RcNeAt.tuple_int b tb hl hu1) _ _ _ _ (fin (by simp [eqP]))
    | str b =>
      obtain ⟨tb, rfl⟩ := ry
      exact (RcNeAt.tuple_str b tb hl hu1) _ _ _ _ (fin (by simp [eqP]))
    | @lst b ys es g q =>
      obtain rfl : u = .ref b := ry; obtain ⟨its2, rv2, hl2, hz2⟩ := I.list g
      exact (RcNeAt.tuple_list hl hl2.isList hu1) _ _ _ _ (fin (by simp [eqP]))
    | @tup b ys es g q =>
      obtain rfl : u = .ref b := ry; obtain ⟨its2, rv2, hl2, hz2⟩ := I.tuple g
      have l1 := rv.length
      have l2 := rv2.length
      have d1 := r.len
      have d2 := q.len
      refine RcNeAt.tuples (A := X.A) (e := fun i => eqP (ds.getD i .none) (es.getD i .none)) hl hl2 hu1 (fun j h1 h2 => eqAt_all I r 60 q rv rv2 (by have := hc.2.2.2; simp only [dpD] at this; omega) j (by simp at h1; simpa using List.getElem?_eq_getElem h1) (by simp at h2; simpa using List.getElem?_eq_getElem h2) (by have := hc.2.2.1; simpa [nodct] using this) X.A.in1 (by show X.A.units + 1 + 60 < cLine; omega)) _ _ _ _ (fin ?_)
      simp only [eqP]
      by_cases hlen : ds.length = es.length
      · rw [eqPs_range hlen]
        have e2 : min its.toArray.size its2.toArray.size = ds.length := by simp; omega
        have e3 : (its.toArray.size == its2.toArray.size) = true := by simp; omega
        rw [e2, e3, Bool.and_true]
      · rw [eqPs_len hlen]
        have e3 : (its.toArray.size == its2.toArray.size) = false := by simp; omega
        rw [e3, Bool.and_false]
    | dct g nd2 q => exact absurd hc.2.1 (by simp [isDct])
  | dct h nd r => exact absurd hc.1 (by simp [isDct])
/-! ### in, not in -/
def rInP (K : PySem.W.Frag) (neg : Bool) : R2 := fun x y H Q => ∃ d e es, Da K H x d ∧ Da K H y e ∧ (e = .list es ∨ e = .tuple es) ∧ (nodct d = true ∨ nodcts es = true) ∧ dpDs es ≤ 60 ∧ Q (.bl (if neg then !es.any (fun z => eqP z d) else es.any fun z => eqP z d)) H
theorem da_mem {H : Hp} {K : PySem.W.Frag} : ∀ {xs : List V} {es : List PyData} {us : List Value}, DaAll K H xs es → Vals xs us → ∀ {u : Value}, u ∈ us → ∃ (x : V) (d : PyData) (i : Nat), es[i]? = some d ∧ Da K H x d ∧ RelV x u
  | _, _, _, .nil, .nil, u, h => nomatch h
  | _, _, _, .cons h r, .cons a t, u, hm => by
    rcases List.mem_cons.mp hm with rfl | hm
    · exact ⟨_, _, 0, rfl, h, a⟩
    · obtain ⟨x, d, i, h1, h2, h3⟩ := da_mem r t hm
      exact ⟨x, d, i + 1, h1, h2, h3⟩
open Classical in
noncomputable def eqU3 (K : PySem.W.Frag) (H : Hp) (d : PyData) (u : Value) : Bool := decide (∃ x d', RelV x u ∧ Da K H x d' ∧ eqP d' d = true)
open Classical in
theorem eqU3_of {pins : List (Addr × Obj)} {σ : L2.St} {H : Hp} {s : Shared} (I : Inv X pins σ H s) {d d' : PyData} {x : V} {u : Value} (r : RelV x u) (h : Da X.K H x d') : eqU3 X.K H d u = eqP d' d := by
  unfold eqU3
  cases e : eqP d' d with
  | true => exact decide_eq_true ⟨x, d', r, h, e⟩
  | false =>
    refine decide_eq_false fun ⟨x2, d2, r2, h2, e2⟩ => ?_
    obtain rfl := r.inj r2
    obtain rfl := Da.inj I h h2
    rw [e] at e2
    cases e2
theorem any_eqU3 {pins : List (Addr × Obj)} {σ : L2.St} {H : Hp} {s : Shared} (I : Inv X pins σ H s) {d : PyData} : ∀ {xs : List V} {es : List PyData} {us : List Value}, DaAll X.K H xs es → Vals xs us → us.any (eqU3 X.K H d) = es.any fun z => eqP z d
  | _, _, _, .nil, .nil => rfl
  | _, _, _, .cons h r, .cons a t => by
    rw [List.any_cons, List.any_cons, eqU3_of I a h, any_eqU3 I r t]
theorem nodcts_get : ∀ {es : List PyData} {i : Nat} {d : PyData}, nodcts es = true → es[i]? = some d → nodct d = true
  | [], _, _, _, h => nomatch h
  | x :: xs, 0, d, h, e => by
    cases e
    exact nodcts_hd h
  | x :: xs, i + 1, d, h, e => nodcts_get (nodcts_tl h) (by simpa using e)
theorem dpDs_get : ∀ {es : List PyData} {i : Nat} {d : PyData}, es[i]? = some d → dpD d ≤ dpDs es
  | [], _, _, h => nomatch h
  | x :: xs, 0, d, e => by
    cases e
    unfold dpDs
    exact Nat.le_max_left _ _
  | x :: xs, i + 1, d, e => by
    unfold dpDs
    exact Nat.le_trans (dpDs_get (by simpa using e)) (Nat.le_max_right _ _)
theorem in_items {pins : List (Addr × Obj)} {σ : L2.St} {H : Hp} {s : Shared} (hu : X.A.units + 65 < cLine) (I : Inv X pins σ H s) {x : V} {v : Value} {d : PyData} {es : List PyData} {xs : List V} {us : List Value} (hx : Da X.K H x d) (rx : RelV x v) (r : DaAll X.K H xs es) (rv : Vals xs us) (nq : nodct d = true ∨ nodcts es = true) (hn : dpDs es ≤ 60) :
    ∀ y, y ∈ us.toArray → EqAt X.A.in1 s y v (eqU3 X.K H d y) := fun y hy => by
  obtain ⟨x2, d2, i, h1, h2, h3⟩ := da_mem r rv (by simpa using hy)
  rw [eqU3_of I h3 h2]
  exact eqAt_da I h2 60 hx h3 rx (Nat.le_trans (dpDs_get h1) hn) (nq.symm.imp (fun z => nodcts_get z h1) id) _ (by show X.A.units + 1 + 60 < cLine; omega)
theorem op_InP (hu : X.A.units + 65 < cLine) : OpR X (compareOp .In) (rInP X.K false) := by
  intro pins s σ H x y v u Q I rx ry hh
  obtain ⟨d, e, es, hd, he, hl, nq, hn, q⟩ := hh
  rcases hl with rfl | rfl
  · cases he with
    | @lst b ys es g r =>
      obtain rfl : u = .ref b := ry
      obtain ⟨its, rv, hl, hz⟩ := I.list g
      refine in_listAt (eqU3 X.K H d) hl.isList (in_items hu I hd rx r rv nq hn) ?_
      refine ⟨.bl _, H, I, rfl, ?_⟩
      have e1 : (its.toArray.any (eqU3 X.K H d)) = es.any fun z => eqP z d := by rw [List.any_toArray]; exact any_eqU3 I r rv
      rw [e1]
      exact q
  · cases he with
    | @tup b ys es g r =>
      obtain rfl : u = .ref b := ry
      obtain ⟨its, rv, hl, hz⟩ := I.tuple g
      refine in_tupleAt (eqU3 X.K H d) hl (in_items hu I hd rx r rv nq hn) ?_
      refine ⟨.bl _, H, I, rfl, ?_⟩
      have e1 : (its.toArray.any (eqU3 X.K H d)) = es.any fun z => eqP z d := by rw [List.any_toArray]; exact any_eqU3 I r rv
      rw [e1]
      exact q
theorem op_NotInP (hu : X.A.units + 65 < cLine) : OpR X (compareOp .NotIn) (rInP X.K true) := by
  intro pins s σ H x y v u Q I rx ry hh
  obtain ⟨d, e, es, hd, he, hl, nq, hn, q⟩ := hh
  rcases hl with rfl | rfl
  · cases he with
    | @lst b ys es g r =>
      obtain rfl : u = .ref b := ry
      obtain ⟨its, rv, hl, hz⟩ := I.list g
      refine notIn_listAt (eqU3 X.K H d) hl.isList (in_items hu I hd rx r rv nq hn) ?_
      refine ⟨.bl _, H, I, rfl, ?_⟩
      have e1 : (its.toArray.any (eqU3 X.K H d)) = es.any fun z => eqP z d := by rw [List.any_toArray]; exact any_eqU3 I r rv
      rw [e1]
      exact q
  · cases he with
    | @tup b ys es g r =>
      obtain rfl : u = .ref b := ry
      obtain ⟨its, rv, hl, hz⟩ := I.tuple g
      refine notIn_tupleAt (eqU3 X.K H d) hl (in_items hu I hd rx r rv nq hn) ?_
      refine ⟨.bl _, H, I, rfl, ?_⟩
      have e1 : (its.toArray.any (eqU3 X.K H d)) = es.any fun z => eqP z d := by rw [List.any_toArray]; exact any_eqU3 I r rv
      rw [e1]
      exact q
end
end Kf

set_option Elab.async false
set_option linter.all false
set_option maxRecDepth 100000
set_option maxHeartbeats 2000000
namespace Kf
open PySem PySem.Spec PyProof.Rows L2 LamX NdefX
/-! ## repr of any data -/
theorem keyD_reads {h : Heap} (k : Key) (key : Value) (e : keyIs k key = true) : Reads h key (keyD k) [] := by
  rcases keyIs_shape e with ⟨i, t, rfl, rfl⟩ | ⟨x, t, rfl, rfl⟩
  · exact .int i t
  · exact .str x t
section
variable {X : Cx} {pins : List (Addr × Obj)} {σ : L2.St} {H : Hp} {s : Shared}
mutual
theorem Da.reads (I : Inv X pins σ H s) : ∀ {v : V} {d : PyData}, Da X.K H v d → ∀ {u : Value}, RelV v u → ∃ as, Reads s.heap u d as
  | _, _, .non, u, r => by cases (show u = .none from r); exact ⟨_, .none⟩
  | _, _, .bl b, u, r => by cases (show u = .bool b from r); exact ⟨_, .bool b⟩
  | _, _, .int i, u, r => by obtain ⟨t, rfl⟩ := r; exact ⟨_, .int i t⟩
  | _, _, .str z, u, r => by obtain ⟨t, rfl⟩ := r; exact ⟨_, .str z t⟩
  | _, _, .lst h q, u, r => by
    cases r
    obtain ⟨its, rv, ⟨o, n, ho, hc, _, hd⟩, _⟩ := I.list h
    obtain ⟨as, hr⟩ := DaAll.reads I q rv
    exact ⟨_, .list ho hc hd hr⟩
  | _, _, .tup h q, u, r => by
    cases r
    obtain ⟨its, rv, ⟨o, ho, hc, n, hd⟩, _⟩ := I.tuple h
    obtain ⟨as, hr⟩ := DaAll.reads I q rv
    exact ⟨_, .tuple ho hc hd hr⟩
  | _, _, .dct h _ q, u, r => by
    cases r
    obtain ⟨_, _, ⟨vs, kv, hdo⟩, _⟩ := dct_obj I h
    obtain ⟨bs, p⟩ := DaKV.reads I q kv
    exact ⟨_, PyProof.V.reads_dictOf (fun k key e => keyD_reads k key e) hdo p⟩
theorem DaAll.reads (I : Inv X pins σ H s) : ∀ {vs : List V} {ds : List PyData}, DaAll X.K H vs ds → ∀ {us : List Value}, Vals vs us → ∃ as, ReadsAll s.heap us ds as
  | _, _, .nil, us, r => by cases r; exact ⟨_, .nil⟩
  | _, _, .cons h q, us, r => by
    cases r with
    | cons r1 r2 =>
      obtain ⟨as, a1⟩ := Da.reads I h r1
      obtain ⟨bs, a2⟩ := DaAll.reads I q r2
      exact ⟨_, .cons a1 a2⟩
theorem DaKV.reads (I : Inv X pins σ H s) : ∀ {kvs : List (Key × V)} {ds : List (PyData × PyData)}, DaKV X.K H kvs ds → ∀ {vs : List (Key × Value)}, KV kvs vs → ∃ bs, PyProof.V.PairsRead s.heap keyD vs ds bs
  | _, _, .nil, vs, r => by cases r; exact ⟨_, .nil⟩
  | _, _, .cons h q, vs, r => by
    cases r with
    | cons r1 r2 =>
      rename_i b ys
      obtain ⟨k, v⟩ := b
      obtain ⟨e1, e2⟩ := r1
      have e1 : _ = k := e1
      subst e1
      obtain ⟨as, a1⟩ := Da.reads I h e2
      obtain ⟨bs, a2⟩ := DaKV.reads I q r2
      exact ⟨_, .cons a1 a2⟩
end
theorem pairs_vals {knd : KeyKind X.prog X.w Key} : ∀ {es : List DictEntry} {kvs : List (Key × Value)}, Pairs knd es kvs → es.map (·.val) = kvs.map (·.2)
  | _, _, .nil => rfl
  | _, _, .cons _ hv hp => by rw [List.map_cons, List.map_cons, hv, pairs_vals hp]
theorem keys_nodict {K : PySem.W.Frag} {S : Hp} : ∀ {kvs : List (Key × V)} {ds : List (PyData × PyData)}, DaKV K S kvs ds → PyData.hasDictAll (ds.map (·.1)) = false
  | _, _, .nil => by simp only [List.map_nil, PyData.hasDictAll]
  | _, _, .cons (k := k) h q => by
    rw [List.map_cons, PyData.hasDictAll, keys_nodict q]
    cases k <;> simp [keyD, PyData.hasDict]
mutual
theorem Da.repr (I : Inv X pins σ H s) : ∀ {v : V} {d : PyData}, Da X.K H v d → ∀ {u : Value}, RelV v u → d.showable = true → d.shown.length ≤ sizeLine → ∃ bs, ReadAtMost s.heap d.depth bs ∧ ReprK X.prog X.w bs s.heap d.depth u d.shown
  | _, _, .non, u, r, _, _ => by cases (show u = .none from r); exact ⟨[], (fun _ h => nomatch h), by simp only [PyData.shown]; exact .of_is ReprIs.none _ _ _⟩
  | _, _, .bl b, u, r, _, _ => by cases (show u = .bool b from r); exact ⟨[], (fun _ h => nomatch h), by simp only [PyData.shown]; exact .of_is (ReprIs.bool b) _ _ _⟩
  | _, _, .int i, u, r, hs, _ => by obtain ⟨t, rfl⟩ := r; exact ⟨[], (fun _ h => nomatch h), by simp only [PyData.shown]; exact .of_is (ReprIs.int t (by simpa [PyData.showable] using hs)) _ _ _⟩
  | _, _, .str z, u, r, _, hz => by obtain ⟨t, rfl⟩ := r; exact ⟨[], (fun _ h => nomatch h), by simp only [PyData.shown]; exact .of_is (ReprIs.str z t (by simpa only [PyData.shown] using hz)) _ _ _⟩
  | _, _, .lst (ds := ds) h q, u, r, hs, hz => by
    obtain ⟨as, rd⟩ := Da.reads I (.lst h q) r
    cases r
    have hz' : (listText (PyData.shownAll ds)).length ≤ sizeLine := by simpa only [PyData.shown] using hz
    obtain ⟨its, rv, ⟨o, n, ho, hc, _, hd⟩, _⟩ := I.list h
    obtain ⟨bs, hb, hk⟩ := DaAll.repr I q rv (by simpa [PyData.showable] using hs) (fun t ht => Nat.le_trans (listText_mem_le ht) hz')
    have hna := not_mem_of_deeper rd (by simp only [PyData.depth]; omega) hb
    refine ⟨_ :: bs, ReadAtMost.cons rd (by simp only [PyData.depth]; omega) hb, ?_⟩
    simp only [PyData.depth, PyData.shown]
    cases its with
    | nil =>
      cases rv
      cases q
      simp only [PyData.shownAll, listText_nil]
      exact ReprK.listEmpty ho hc hd
    | cons x l => exact ReprK.list ho hc hd hna (by simpa using hk.length_eq) (fun i y e => hk.item i y (by simpa using e))
  | _, _, .tup (ds := ds) h q, u, r, hs, hz => by
    obtain ⟨as, rd⟩ := Da.reads I (.tup h q) r
    cases r
    have hz' : (tupleText (PyData.shownAll ds)).length ≤ sizeLine := by simpa only [PyData.shown] using hz
    obtain ⟨its, rv, ⟨o, ho, hc, n, hd⟩, _⟩ := I.tuple h
    obtain ⟨bs, hb, hk⟩ := DaAll.repr I q rv (by simpa [PyData.showable] using hs) (fun t ht => Nat.le_trans (tupleText_mem_le ht) hz')
    have hna := not_mem_of_deeper rd (by simp only [PyData.depth]; omega) hb
    refine ⟨_ :: bs, ReadAtMost.cons rd (by simp only [PyData.depth]; omega) hb, ?_⟩
    simp only [PyData.depth, PyData.shown]
    exact ReprK.tuple ho hc hd hna hk
  | _, _, .dct (ds := ds) h nd q, u, r, hs, hz => by
    obtain ⟨as, rd⟩ := Da.reads I (.dct h nd q) r
    cases r
    have hz' : (dictText (PyData.shownKv ds)).length ≤ sizeLine := by simpa only [PyData.shown] using hz
    obtain ⟨hz0, hsys, vs, kv, hdo⟩ := Rd.ok (Or.inl h) I.hok
    obtain ⟨o, es, ep, ho, hx, hdat, _, hp, _⟩ := hdo
    obtain ⟨bs0, p0⟩ := DaKV.reads I q kv
    obtain ⟨h4, h5⟩ := PyProof.V.readsAll_of_pairs (fun k key e => keyD_reads k key e) hp p0
    obtain ⟨hs1, hs2⟩ := PyData.showableKv_split ds (by simpa [PyData.showable] using hs)
    obtain ⟨b1, hb1, k1⟩ := ReprAllK.of_readsAll (prog := X.prog) (w := X.w) h4 hs1 (fun z => by rw [keys_nodict q] at z; cases z) (fun t ht => let ⟨p, hp, hl⟩ := PyData.shownKv_key_le ds t ht; Nat.le_trans hl (Nat.le_trans (dictText_mem_le hp) hz'))
    obtain ⟨b2, hb2, k2⟩ := DaKV.repr I q kv hs2 (fun t ht => let ⟨p, hp, hl⟩ := PyData.shownKv_val_le ds t ht; Nat.le_trans hl (Nat.le_trans (dictText_mem_le hp) hz'))
    rw [← pairs_vals hp] at k2
    have hb : ReadAtMost s.heap (PyData.depthKv ds) (b1 ++ b2) := (hb1.mono (PyData.depthAll_keys_le ds)).append (hb2.mono (PyData.depthAll_vals_le ds))
    have hna := not_mem_of_deeper rd (by simp only [PyData.depth]; omega) hb
    refine ⟨_ :: (b1 ++ b2), ReadAtMost.cons rd (by simp only [PyData.depth]; omega) hb, ?_⟩
    simp only [PyData.depth, PyData.shown, PyData.shownKv_eq]
    exact ReprK.dict ho hx.1 hdat hsys hna (ReprEntriesK.of_two es.toList _ _
      (k1.more_le (fun b hb => List.mem_append_left _ hb) (PyData.depthAll_keys_le ds)) (k2.more_le (fun b hb => List.mem_append_right _ hb) (PyData.depthAll_vals_le ds)))
theorem DaAll.repr (I : Inv X pins σ H s) : ∀ {vs : List V} {ds : List PyData}, DaAll X.K H vs ds → ∀ {us : List Value}, Vals vs us → PyData.showableAll ds = true → (∀ t ∈ PyData.shownAll ds, t.length ≤ sizeLine) →
    ∃ bs, ReadAtMost s.heap (PyData.depthAll ds) bs ∧ ReprAllK X.prog X.w bs s.heap (PyData.depthAll ds) us (PyData.shownAll ds)
  | _, _, .nil, us, r, _, _ => by cases r; exact ⟨[], (fun _ h => nomatch h), by simp only [PyData.shownAll]; exact .nil⟩
  | _, _, .cons (d := d) (ds := ds) h q, us, r, hs, hz => by
    cases r with
    | cons r1 r2 =>
      have hs' : d.showable = true ∧ PyData.showableAll ds = true := by simpa [PyData.showableAll] using hs
      obtain ⟨b1, hb1, k1⟩ := Da.repr I h r1 hs'.1 (hz _ (by simp only [PyData.shownAll]; exact List.mem_cons_self ..))
      obtain ⟨b2, hb2, k2⟩ := DaAll.repr I q r2 hs'.2 (fun t ht => hz t (by simp only [PyData.shownAll]; exact List.mem_cons_of_mem _ ht))
      refine ⟨b1 ++ b2, ?_, ?_⟩
      · simp only [PyData.depthAll]
        exact (hb1.mono (Nat.le_max_left _ _)).append (hb2.mono (Nat.le_max_right _ _))
      · simp only [PyData.depthAll, PyData.shownAll]
        exact .cons ((k1.more fun b hb => List.mem_append_left _ hb).level_le (Nat.le_max_left _ _)) (k2.more_le (fun b hb => List.mem_append_right _ hb) (Nat.le_max_right _ _))
theorem DaKV.repr (I : Inv X pins σ H s) : ∀ {kvs : List (Key × V)} {ds : List (PyData × PyData)}, DaKV X.K H kvs ds → ∀ {vs : List (Key × Value)}, KV kvs vs → PyData.showableAll (ds.map (·.2)) = true → (∀ t ∈ PyData.shownAll (ds.map (·.2)), t.length ≤ sizeLine) →
    ∃ bs, ReadAtMost s.heap (PyData.depthAll (ds.map (·.2))) bs ∧ ReprAllK X.prog X.w bs s.heap (PyData.depthAll (ds.map (·.2))) (vs.map (·.2)) (PyData.shownAll (ds.map (·.2)))
  | _, _, .nil, vs, r, _, _ => by cases r; exact ⟨[], (fun _ h => nomatch h), by simp only [List.map_nil, PyData.shownAll]; exact .nil⟩
  | _, _, .cons (d := d) (ds := ds) h q, vs, r, hs, hz => by
    cases r with
    | cons r1 r2 =>
      rw [List.map_cons] at hs hz ⊢
      have hs' : d.showable = true ∧ PyData.showableAll (ds.map (·.2)) = true := by simpa [PyData.showableAll] using hs
      obtain ⟨b1, hb1, k1⟩ := Da.repr I h r1.2 hs'.1 (hz _ (by simp only [PyData.shownAll]; exact List.mem_cons_self ..))
      obtain ⟨b2, hb2, k2⟩ := DaKV.repr I q r2 hs'.2 (fun t ht => hz t (by simp only [PyData.shownAll]; exact List.mem_cons_of_mem _ ht))
      refine ⟨b1 ++ b2, ?_, ?_⟩
      · simp only [PyData.depthAll]
        exact (hb1.mono (Nat.le_max_left _ _)).append (hb2.mono (Nat.le_max_right _ _))
      · simp only [PyData.depthAll, PyData.shownAll, List.map_cons]
        exact .cons ((k1.more fun b hb => List.mem_append_left _ hb).level_le (Nat.le_max_left _ _)) (k2.more_le (fun b hb => List.mem_append_right _ hb) (Nat.le_max_right _ _))
end
end
end Kf

set_option Elab.async false
set_option linter.all false
set_option maxRecDepth 100000
set_option maxHeartbeats 2000000
namespace Kf
open PySem PySem.Spec PyProof.Rows L2 LamX NdefX
/-! ## dicts whose keys are tuples of any depth -/
mutual
def nkD : PyData → Option NestedKey
  | .none => some .none
  | .bool b => some (.num (if b = true then 1 else 0))
  | .int i => some (.num i)
  | .str z => some (.text z)
  | .tuple ds => (nkDs ds).map NestedKey.tup
  | _ => none
def nkDs : List PyData → Option (List NestedKey)
  | [] => some []
  | d :: r => match nkD d, nkDs r with
    | some k, some ks => some (k :: ks)
    | _, _ => none
end
section
variable {X : Cx} {pins : List (Addr × Obj)} {σ : L2.St} {H : Hp} {s : Shared}
mutual
theorem Da.nk (I : Inv X pins σ H s) : ∀ {v : V} {d : PyData}, Da X.K H v d → ∀ {k : NestedKey} {u : Value}, nkD d = some k → RelV v u → NestedIs s.heap k u
  | _, _, .non, k, u, e, r => by cases (show u = .none from r); simp only [nkD] at e; cases e; exact .none
  | _, _, .bl b, k, u, e, r => by cases (show u = .bool b from r); simp only [nkD] at e; cases e; exact .bool rfl
  | _, _, .int i, k, u, e, r => by obtain ⟨t, rfl⟩ := r; simp only [nkD] at e; cases e; exact .int i t
  | _, _, .str z, k, u, e, r => by obtain ⟨t, rfl⟩ := r; simp only [nkD] at e; cases e; exact .text z t
  | _, _, .lst h q, k, u, e, r => by simp [nkD] at e
  | _, _, .tup (ds := ds) h q, k, u, e, r => by
    cases r
    obtain ⟨its, rv, ⟨o, ho, hc, n, hd⟩, _⟩ := I.tuple h
    simp only [nkD] at e
    cases e2 : nkDs ds with
    | none => rw [e2] at e; cases e
    | some ks =>
      rw [e2] at e
      cases e
      exact .tup ho hc hd (DaAll.nk I q e2 rv)
  | _, _, .dct h n q, k, u, e, r => by simp [nkD] at e
theorem DaAll.nk (I : Inv X pins σ H s) : ∀ {vs : List V} {ds : List PyData}, DaAll X.K H vs ds → ∀ {ks : List NestedKey} {us : List Value}, nkDs ds = some ks → Vals vs us → NestedAll s.heap ks us
  | _, _, .nil, ks, us, e, r => by cases r; simp only [nkDs] at e; cases e; exact .nil
  | _, _, .cons (d := d) (ds := ds) h q, ks, us, e, r => by
    cases r with
    | cons r1 r2 =>
      simp only [nkDs] at e
      cases e1 : nkD d with
      | none => rw [e1] at e; cases e
      | some k =>
        cases e2 : nkDs ds with
        | none => rw [e1, e2] at e; cases e
        | some ks' =>
          rw [e1, e2] at e
          cases e
          exact .cons (Da.nk I h e1 r1) (DaAll.nk I q e2 r2)
end
end
/-- the entries: the key, where its tuple stands, the value -/
abbrev NEs := List (NestedKey × Addr × V)
def atN (xs : NEs) (k : NestedKey) : Option V := (xs.find? fun x => decide (x.1 = k)).map (·.2.2)
def putN (xs : NEs) (k : NestedKey) (a : Addr) (v : V) : NEs := if (atN xs k).isSome then xs.map fun x => if x.1 = k then (x.1, x.2.1, v) else x else xs ++ [(k, a, v)]
def RelN : NEs → List (NestedKey × Addr × Value) → Prop := Paired fun p q => p.1 = q.1 ∧ p.2.1 = q.2.1 ∧ RelV p.2.2 q.2.2
def DPart (P : Program) (w : World) (h : Heap) (d : Addr) (xs : List (NestedKey × Addr × Value)) : Prop :=
  ∃ o es ep, h.get? d = some o ∧ o.ExactDict ∧ o.data = .dict es ep ∧ es.toList = xs.map (entryOfKey (nestedKind P w)) ∧ (xs.map (·.1)).Nodup
/-- such a dict at d -/
def NDict (P : Program) (w : World) (d : Addr) (xs : NEs) : HO := .ext fun h => xs.length ≤ sizeLine ∧ (d == sysModules) = false ∧ ∃ ys, RelN xs ys ∧ DPart P w h d ys
theorem nd_ok {P : Program} {w : World} {H : Hp} {h : Heap} {d : Addr} {xs : NEs} {ys : List (NestedKey × Addr × Value)} (hl : xs.length ≤ sizeLine) (hs : (d == sysModules) = false) (r : RelN xs ys) (p : DPart P w h d ys) : ObjOk P w H h d (NDict P w d xs) :=
  ⟨⟨hl, hs, ys, r, p⟩, let ⟨o, _, _, e, _⟩ := p; ⟨o, e⟩, fun _ _ ⟨q1, q2, zs, q3, o, es, ep, e, q⟩ k => ⟨q1, q2, zs, q3, o, es, ep, k o e, q⟩⟩
/-- the keys' tuples are there -/
def KeysAt (K : PySem.W.Frag) (H : Hp) (xs : NEs) : Prop := ∀ x ∈ xs, ∃ dk, Da K H (.ref x.2.1) dk ∧ nkD dk = some x.1 ∧ x.1.depth ≤ 8
theorem relN_at : ∀ {xs : NEs} {ys : List (NestedKey × Addr × Value)}, RelN xs ys → ∀ k, RelO (atN xs k) ((atKey ys k).map (·.2))
  | _, _, .nil, k => by simp [atN, atKey, RelO]
  | _, _, @Paired.cons _ _ _ x y xs ys h r, k => by
    obtain ⟨e1, e2, e3⟩ := h
    have ih := relN_at r k
    unfold atN atKey at ih ⊢
    rw [List.find?_cons, List.find?_cons, ← e1]
    by_cases z : x.1 = k
    · rw [decide_eq_true z]
      exact e3
    · rw [decide_eq_false z]
      exact ih
theorem relN_putN {xs : NEs} {ys : List (NestedKey × Addr × Value)} (r : RelN xs ys) {k : NestedKey} {a : Addr} {v : V} {u : Value} (rv : RelV v u) : RelN (putN xs k a v) (storedH ys k a u) := by
  have e : (atN xs k).isSome = (atKey ys k).isSome := by
    have := relN_at r k
    cases e1 : atN xs k <;> cases e2 : atKey ys k <;> rw [e1, e2] at this <;> first | rfl | exact this.elim
  unfold putN storedH
  rw [e]
  cases (atKey ys k).isSome with
  | true =>
    rw [if_pos rfl, if_pos rfl]
    clear e
    induction r with
    | nil => exact .nil
    | @cons x y l1 l2 h r ih =>
      refine .cons ?_ ih
      obtain ⟨e1, e2, e3⟩ := h
      unfold putAt
      dsimp only
      rw [← e1]
      by_cases z : x.1 = k
      · rw [if_pos z, if_pos z]
        exact ⟨rfl, e2, rv⟩
      · rw [if_neg z, if_neg z]
        exact ⟨e1, e2, e3⟩
  | false =>
    rw [if_neg (by nofun), if_neg (by nofun)]
    exact r.snoc ⟨rfl, rfl, rv⟩
theorem keys_putN {xs : NEs} {k : NestedKey} {a : Addr} {v : V} {x : NestedKey × Addr × V} (h : x ∈ putN xs k a v) : (∃ y ∈ xs, y.1 = x.1 ∧ y.2.1 = x.2.1) ∨ (x.1 = k ∧ x.2.1 = a) := by
  unfold putN at h
  split at h
  · obtain ⟨y, hy, rfl⟩ := List.mem_map.mp h
    split
    · exact .inl ⟨y, hy, rfl, rfl⟩
    · exact .inl ⟨y, hy, rfl, rfl⟩
  · rcases List.mem_append.mp h with h | h
    · exact .inl ⟨x, h, rfl, rfl⟩
    · rw [List.mem_singleton.mp h]
      exact .inr ⟨rfl, rfl⟩
theorem len_putN {xs : NEs} {k : NestedKey} {a : Addr} {v : V} : (putN xs k a v).length ≤ xs.length + 1 := by
  unfold putN
  split <;> simp
theorem pairAt {α β : Type} {F : α → β → Prop} : ∀ {xs : List α} {ys : List β}, Paired F xs ys → ∀ {i : Nat} {y : β}, ys[i]? = some y → ∃ x, xs[i]? = some x ∧ F x y
  | _, _, .nil, i, y, h => by cases h
  | _, _, .cons a r, 0, y, h => by cases h; exact ⟨_, rfl, a⟩
  | _, _, .cons a r, i + 1, y, h => pairAt r (show _ = _ from h)
section
variable {X : Cx} {pins : List (Addr × Obj)} {σ : L2.St} {H : Hp} {s : Shared} {A : Around} {E : Value → Shared → Prop} {d : Addr} {xs : NEs}
/-- such a dict, or the empty one -/
def NAt (P : Program) (w : World) (H : Hp) (d : Addr) (xs : NEs) : Prop := H d = some (NDict P w d xs) ∨ (xs = [] ∧ H d = some (.dK []))
theorem NAt.mut {P : Program} {w : World} (h : NAt P w H d xs) : Mut (H d) := by
  rcases h with h | ⟨_, h⟩ <;> (rw [h]; exact True.intro)
/-- what stands in the heap -/
theorem nd_at (I : Inv X pins σ H s) (hd : NAt X.prog X.w H d xs) (hk : KeysAt X.K H xs) : xs.length ≤ sizeLine ∧ (d == sysModules) = false ∧ ∃ ys, RelN xs ys ∧ s.heap.DictOfH (nestedKind X.prog X.w) d ys := by
  rcases hd with hd | ⟨rfl, hd⟩
  rotate_left
  · obtain ⟨z, hs, vs, rel, o, es, ep, e1, e2, e3, _, e4, _⟩ := dk_of I.hok hd
    cases rel
    have : es.toList = [] := by
      cases q : es.toList with
      | nil => rfl
      | cons x r => rw [q] at e4; cases e4
    exact ⟨by simp, hs, [], .nil, o, es, ep, e1, e2, e3, by rw [this]; rfl, ⟨fun x hx => (by cases hx), .nil⟩⟩
  have q : ObjOk X.prog X.w H s.heap d (NDict X.prog X.w d xs) := I.hok d _ hd
  obtain ⟨⟨h1, h2, ys, r, o, es, ep, e1, e2, e3, e4, e5⟩, _⟩ := q
  refine ⟨h1, h2, ys, r, o, es, ep, e1, e2, e3, e4, fun y hy => ?_, e5⟩
  obtain ⟨i, hi⟩ := List.mem_iff_getElem?.mp hy
  have hlen : i < xs.length := by rw [Paired.length r]; exact (List.getElem?_eq_some_iff.mp hi).1
  obtain ⟨x0, hx0, hp⟩ := pairAt r hi
  obtain rfl : x0 = xs[i] := by
    rw [List.getElem?_eq_getElem hlen] at hx0
    exact (Option.some.inj hx0).symm
  obtain ⟨dk, g1, g2, g3⟩ := hk _ (List.getElem_mem hlen)
  exact ⟨by rw [← hp.1, ← hp.2.1]; exact Da.nk I g1 g2 rfl, by rw [← hp.1]; exact g3⟩
/-- a key -/
structure KeyOf (K : PySem.W.Frag) (H : Hp) (v : V) (k : NestedKey) (a : Addr) : Prop where
  ref : v = .ref a
  da : ∃ dk, Da K H v dk ∧ nkD dk = some k
  dp : k.depth ≤ 8
theorem KeyOf.is {v : V} {k : NestedKey} {a : Addr} {u : Value} (I : Inv X pins σ H s) (h : KeyOf X.K H v k a) (r : RelV v u) : u = .ref a ∧ (nestedKind X.prog X.w).is s.heap k a := by
  obtain ⟨rfl, ⟨dk, h1, h2⟩, h3⟩ := h
  cases (show u = .ref a from r)
  exact ⟨rfl, Da.nk I h1 h2 rfl, h3⟩
def rInN (K : PySem.W.Frag) (P : Program) (w : World) (neg : Bool) : R2 := fun x y H Q => ∃ a d k xs, KeyOf K H x k a ∧ y = .ref d ∧ NAt P w H d xs ∧ KeysAt K H xs ∧ Q (.bl (if neg = true then !(atN xs k).isSome else (atN xs k).isSome)) H
theorem relN_some {ys : List (NestedKey × Addr × Value)} (r : RelN xs ys) (k : NestedKey) : (atN xs k).isSome = (atKey ys k).isSome := by
  have := relN_at r k
  cases e1 : atN xs k <;> cases e2 : atKey ys k <;> rw [e1, e2] at this <;> first | rfl | exact this.elim
theorem op_InN (hu : X.A.units + 65 < cLine) : OpR X (compareOp .In) (rInN X.K X.prog X.w false) := by
  intro pins s σ H x y v u Q I rx ry h
  obtain ⟨a, d, k, xs, hk, rfl, hd, hks, q⟩ := h
  obtain ⟨rfl, ki⟩ := hk.is I rx
  cases (show u = Value.ref d from ry)
  obtain ⟨_, h2, ys, r, hm⟩ := nd_at I hd hks
  refine wpAny_in_heap (by show X.A.units + 1 + 8 < cLine; omega) ki h2 hm ?_
  rw [← relN_some r k]
  exact ⟨.bl _, H, I.tok _, rfl, q⟩
theorem op_NotInN (hu : X.A.units + 65 < cLine) : OpR X (compareOp .NotIn) (rInN X.K X.prog X.w true) := by
  intro pins s σ H x y v u Q I rx ry h
  obtain ⟨a, d, k, xs, hk, rfl, hd, hks, q⟩ := h
  obtain ⟨rfl, ki⟩ := hk.is I rx
  cases (show u = Value.ref d from ry)
  obtain ⟨_, h2, ys, r, hm⟩ := nd_at I hd hks
  refine wpAny_notIn_heap (by show X.A.units + 1 + 8 < cLine; omega) ki h2 hm ?_
  rw [← relN_some r k]
  exact ⟨.bl _, H, I.tok _, rfl, q⟩
def rIxN (K : PySem.W.Frag) (P : Program) (w : World) : R2 := fun x y H Q => ∃ a d k xs v, x = .ref d ∧ KeyOf K H y k a ∧ NAt P w H d xs ∧ KeysAt K H xs ∧ atN xs k = some v ∧ Q v H
theorem ix_N (hu : X.A.units + 65 < cLine) : IxR X (rIxN X.K X.prog X.w) := by
  intro value slice pins s σ H x y v u Q I rx ry h hs
  obtain ⟨a, d, k, xs, r, rfl, hk, hd, hks, hv, q⟩ := h
  cases (show v = Value.ref d from rx)
  obtain ⟨rfl, ki⟩ := hk.is I ry
  obtain ⟨_, h2, ys, rr, hm⟩ := nd_at I hd hks
  refine tail_any hm.typeIs PySem.F.slot_dict_getitem.lookup ?_ hs
  have := relN_at rr k
  rw [hv] at this
  cases e : atKey ys k with
  | none => rw [e] at this; exact this.elim
  | some p =>
    rw [e] at this
    exact wpAny_getItem_heap (by show X.A.units + 1 + 8 < cLine; omega) ki hm e ⟨r, H, I.tok _, this, q⟩
def rSetN (K : PySem.W.Frag) (P : Program) (w : World) : TSet := fun o i v H Q => ∃ a d k xs, o = .ref d ∧ KeyOf K H i k a ∧ NAt P w H d xs ∧ KeysAt K H xs ∧ xs.length < sizeLine ∧ Q (upd H d (NDict P w d (putN xs k a v)))
theorem set_N (hu : X.A.units + 65 < cLine) : PSet X (rSetN X.K X.prog X.w) := by
  intro pins s σ H o i v ov iv u Q I ro ri rv h
  obtain ⟨a, d, k, xs, rfl, hk, hd, hks, hz, q⟩ := h
  cases (show ov = Value.ref d from ro)
  obtain ⟨rfl, ki⟩ := hk.is I ri
  obtain ⟨h1, h2, ys, r, hm⟩ := nd_at I hd hks
  refine wpAny_setItem_heap (hsz := by rw [← Paired.length r]; exact h1) (by show X.A.units + 1 + 8 < cLine; omega) ki hm fun h' hm' hs => ?_
  obtain ⟨ob, es, ep, g1, g2, g3, g4, _, g5⟩ := hm'
  have l := len_putN (xs := xs) (k := k) (a := a) (v := v)
  exact ⟨_, d_write I hd.mut hs ⟨ob, g1⟩ (nd_ok (by omega) h2 (relN_putN r rv) ⟨ob, es, ep, g1, g2, g3, g4, g5⟩), q⟩
end
end Kf

set_option Elab.async false
set_option linter.all false
set_option maxRecDepth 100000
set_option maxHeartbeats 2000000
namespace Kf
open PySem PySem.Spec PyProof.Rows L2 LamX NdefX
/-- what the readings hang on: the frame, the program, the world -/
structure KW where
  K : PySem.W.Frag
  P : Program
  w : World
instance : Coe KW PySem.W.Frag := ⟨KW.K⟩
def _root_.L2.Cx.kw (X : L2.Cx) : KW := ⟨X.K, X.prog, X.w⟩
mutual
/-- v is the data d, by the heap S; dicts may have tuples as keys -/
inductive Dx (K : KW) (S : Hp) : V → PyData → Prop
  | non : Dx K S .non .none
  | bl (b : Bool) : Dx K S (.bl b) (.bool b)
  | int (i : Int) : Dx K S (.int i) (.int i)
  | str (z : Str) : Dx K S (.str z) (.str z)
  | lst {a : Addr} {xs : List V} {ds : List PyData} : SqL K.K S a xs → DxAll K S xs ds → Dx K S (.ref a) (.list ds)
  | tup {a : Addr} {xs : List V} {ds : List PyData} : SqT K.K S a xs → DxAll K S xs ds → Dx K S (.ref a) (.tuple ds)
  | dct {a : Addr} {kvs : List (Key × V)} {ds : List (PyData × PyData)} : S a = some (.dK kvs) → (kvs.map (·.1)).Nodup → DxKV K S kvs ds → Dx K S (.ref a) (.dict ds)
  | dcn {a : Addr} {xs : NEs} {ds : List (PyData × PyData)} : S a = some (NDict K.P K.w a xs) → xs ≠ [] → (xs.map (·.1)).Nodup → DxN K S xs ds → Dx K S (.ref a) (.dict ds)
inductive DxAll (K : KW) (S : Hp) : List V → List PyData → Prop
  | nil : DxAll K S [] []
  | cons {v : V} {vs : List V} {d : PyData} {ds : List PyData} : Dx K S v d → DxAll K S vs ds → DxAll K S (v :: vs) (d :: ds)
inductive DxKV (K : KW) (S : Hp) : List (Key × V) → List (PyData × PyData) → Prop
  | nil : DxKV K S [] []
  | cons {k : Key} {v : V} {kvs : List (Key × V)} {d : PyData} {ds : List (PyData × PyData)} : Dx K S v d → DxKV K S kvs ds → DxKV K S ((k, v) :: kvs) ((keyD k, d) :: ds)
inductive DxN (K : KW) (S : Hp) : NEs → List (PyData × PyData) → Prop
  | nil : DxN K S [] []
  | cons {k : NestedKey} {b : Addr} {v : V} {xs : NEs} {dk d : PyData} {ds : List (PyData × PyData)} : Da K.K S (.ref b) dk → nkD dk = some k → k.depth ≤ 8 → Dx K S v d → DxN K S xs ds → DxN K S ((k, b, v) :: xs) ((dk, d) :: ds)
end
mutual
theorem Dx.sm {K : KW} {S S' : Hp} (s : ExtN S S') : ∀ {v : V} {d : PyData}, Dx K S v d → Dx K S' v d
  | _, _, .non => .non
  | _, _, .bl b => .bl b
  | _, _, .int i => .int i
  | _, _, .str z => .str z
  | _, _, .lst h r => .lst (ex_sqL s h) (DxAll.sm s r)
  | _, _, .tup h r => .tup (ex_sqT s h) (DxAll.sm s r)
  | _, _, .dct h n r => .dct (exl s (by intro _ z; cases z) h) n (DxKV.sm s r)
  | _, _, .dcn h ne n r => .dcn (exl s (by intro _ z; cases z) h) ne n (DxN.sm s r)
theorem DxAll.sm {K : KW} {S S' : Hp} (s : ExtN S S') : ∀ {vs : List V} {ds : List PyData}, DxAll K S vs ds → DxAll K S' vs ds
  | _, _, .nil => .nil
  | _, _, .cons h r => .cons (Dx.sm s h) (DxAll.sm s r)
theorem DxKV.sm {K : KW} {S S' : Hp} (s : ExtN S S') : ∀ {vs : List (Key × V)} {ds : List (PyData × PyData)}, DxKV K S vs ds → DxKV K S' vs ds
  | _, _, .nil => .nil
  | _, _, .cons h r => .cons (Dx.sm s h) (DxKV.sm s r)
theorem DxN.sm {K : KW} {S S' : Hp} (s : ExtN S S') : ∀ {vs : NEs} {ds : List (PyData × PyData)}, DxN K S vs ds → DxN K S' vs ds
  | _, _, .nil => .nil
  | _, _, .cons hk e dp h r => .cons (Da.sm s hk) e dp (Dx.sm s h) (DxN.sm s r)
end
section
variable {K : KW} {S : Hp}
theorem DxAll.len : ∀ {xs : List V} {ds : List PyData}, DxAll K S xs ds → xs.length = ds.length
  | _, _, .nil => rfl
  | _, _, .cons _ r => congrArg (· + 1) (DxAll.len r)
theorem DxAll.get : ∀ {xs : List V} {ds : List PyData}, DxAll K S xs ds → ∀ {i : Nat} {x : V}, xs[i]? = some x → ∃ d, ds[i]? = some d ∧ Dx K S x d
  | _, _, .nil, i, x, h => by cases h
  | _, _, .cons d r, 0, x, h => by
    cases h
    exact ⟨_, rfl, d⟩
  | _, _, .cons _ r, i + 1, x, h => DxAll.get r h
theorem DxAll.getD : ∀ {xs : List V} {ds : List PyData}, DxAll K S xs ds → ∀ {i : Nat} {d : PyData}, ds[i]? = some d → ∃ x, xs[i]? = some x ∧ Dx K S x d
  | _, _, .nil, i, x, h => by cases h
  | _, _, .cons d r, 0, x, h => by
    cases h
    exact ⟨_, rfl, d⟩
  | _, _, .cons _ r, i + 1, x, h => DxAll.getD r h
theorem DxAll.app : ∀ {xs ys : List V} {ds es : List PyData}, DxAll K S xs ds → DxAll K S ys es → DxAll K S (xs ++ ys) (ds ++ es)
  | _, _, _, _, .nil, h => h
  | _, _, _, _, .cons d r, h => .cons d (DxAll.app r h)
theorem DxAll.take : ∀ {xs : List V} {ds : List PyData} (n : Nat), DxAll K S xs ds → DxAll K S (xs.take n) (ds.take n)
  | _, _, 0, h => by simp; exact .nil
  | _, _, _ + 1, .nil => .nil
  | _, _, n + 1, .cons d r => .cons d (DxAll.take n r)
theorem DxAll.drop : ∀ {xs : List V} {ds : List PyData} (n : Nat), DxAll K S xs ds → DxAll K S (xs.drop n) (ds.drop n)
  | _, _, 0, h => h
  | _, _, _ + 1, .nil => .nil
  | _, _, n + 1, .cons d r => DxAll.drop n r
theorem DxAll.set {v : V} {d : PyData} (hd : Dx K S v d) : ∀ {xs : List V} {ds : List PyData} (n : Nat), DxAll K S xs ds → DxAll K S (xs.set n v) (ds.set n d)
  | _, _, _, .nil => .nil
  | _, _, 0, .cons _ r => .cons hd r
  | _, _, n + 1, .cons d r => .cons d (DxAll.set hd n r)
theorem DxAll.erase : ∀ {xs : List V} {ds : List PyData} (n : Nat), DxAll K S xs ds → DxAll K S (xs.eraseIdx n) (ds.eraseIdx n)
  | _, _, _, .nil => .nil
  | _, _, 0, .cons _ r => r
  | _, _, n + 1, .cons d r => .cons d (DxAll.erase n r)
theorem DxAll.rev : ∀ {xs : List V} {ds : List PyData}, DxAll K S xs ds → DxAll K S xs.reverse ds.reverse
  | _, _, .nil => .nil
  | _, _, .cons d r => by
    rw [List.reverse_cons, List.reverse_cons]
    exact (DxAll.rev r).app (.cons d .nil)
theorem DxKV.len : ∀ {xs : List (Key × V)} {ds : List (PyData × PyData)}, DxKV K S xs ds → xs.length = ds.length
  | _, _, .nil => rfl
  | _, _, .cons _ r => congrArg (· + 1) (DxKV.len r)
theorem DxN.len : ∀ {xs : NEs} {ds : List (PyData × PyData)}, DxN K S xs ds → xs.length = ds.length
  | _, _, .nil => rfl
  | _, _, .cons _ _ _ _ r => congrArg (· + 1) (DxN.len r)
theorem DxN.keys : ∀ {xs : NEs} {ds : List (PyData × PyData)}, DxN K S xs ds → KeysAt K.K S xs
  | _, _, .nil => fun x h => by cases h
  | _, _, .cons h e dp _ r => fun x hx => by
    rcases List.mem_cons.mp hx with rfl | hx
    · exact ⟨_, h, e, dp⟩
    · exact DxN.keys r x hx
end
/-- plain: no dict in it has tuples as keys -/
def isTk : PyData → Bool
  | .tuple _ => true
  | _ => false
mutual
def plD : PyData → Bool
  | .list ds => plDs ds
  | .tuple ds => plDs ds
  | .dict kvs => plDk kvs
  | _ => true
def plDs : List PyData → Bool
  | [] => true
  | d :: r => plD d && plDs r
def plDk : List (PyData × PyData) → Bool
  | [] => true
  | (k, d) :: r => !isTk k && plD d && plDk r
end
theorem nk_ref {K : PySem.W.Frag} {S : Hp} {b : Addr} {dk : PyData} {k : NestedKey} (h : Da K S (.ref b) dk) (e : nkD dk = some k) : isTk dk = true := by
  cases h with
  | lst _ _ => simp [nkD] at e
  | tup _ _ => rfl
  | dct _ _ _ => simp [nkD] at e
mutual
theorem Dx.da {K : KW} {S : Hp} : ∀ {v : V} {d : PyData}, Dx K S v d → plD d = true → Da K.K S v d
  | _, _, .non, _ => .non
  | _, _, .bl b, _ => .bl b
  | _, _, .int i, _ => .int i
  | _, _, .str z, _ => .str z
  | _, _, .lst h r, p => .lst h (DxAll.da r (by simpa only [plD] using p))
  | _, _, .tup h r, p => .tup h (DxAll.da r (by simpa only [plD] using p))
  | _, _, .dct h n r, p => .dct h n (DxKV.da r (by simpa only [plD] using p))
  | _, _, .dcn (xs := xs) h ne n r, p => by
    exfalso
    cases r with
    | nil => exact ne rfl
    | cons hk e dp q r =>
      simp only [plD, plDk, Bool.and_eq_true] at p
      have := nk_ref hk e
      rw [this] at p
      exact absurd p.1.1 (by decide)
theorem DxAll.da {K : KW} {S : Hp} : ∀ {vs : List V} {ds : List PyData}, DxAll K S vs ds → plDs ds = true → DaAll K.K S vs ds
  | _, _, .nil, _ => .nil
  | _, _, .cons h r, p => by
    simp only [plDs, Bool.and_eq_true] at p
    exact .cons (Dx.da h p.1) (DxAll.da r p.2)
theorem DxKV.da {K : KW} {S : Hp} : ∀ {vs : List (Key × V)} {ds : List (PyData × PyData)}, DxKV K S vs ds → plDk ds = true → DaKV K.K S vs ds
  | _, _, .nil, _ => .nil
  | _, _, .cons h r, p => by
    simp only [plDk, Bool.and_eq_true] at p
    exact .cons (Dx.da h p.1.2) (DxKV.da r p.2)
end
mutual
theorem Da.dx {K : KW} {S : Hp} : ∀ {v : V} {d : PyData}, Da K.K S v d → Dx K S v d
  | _, _, .non => .non
  | _, _, .bl b => .bl b
  | _, _, .int i => .int i
  | _, _, .str z => .str z
  | _, _, .lst h r => .lst h (DaAll.dx r)
  | _, _, .tup h r => .tup h (DaAll.dx r)
  | _, _, .dct h n r => .dct h n (DaKV.dx r)
theorem DaAll.dx {K : KW} {S : Hp} : ∀ {vs : List V} {ds : List PyData}, DaAll K.K S vs ds → DxAll K S vs ds
  | _, _, .nil => .nil
  | _, _, .cons h r => .cons (Da.dx h) (DaAll.dx r)
theorem DaKV.dx {K : KW} {S : Hp} : ∀ {vs : List (Key × V)} {ds : List (PyData × PyData)}, DaKV K.K S vs ds → DxKV K S vs ds
  | _, _, .nil => .nil
  | _, _, .cons h r => .cons (Da.dx h) (DaKV.dx r)
end
/-! ### what a key finds -/
def findT (k : NestedKey) : List (PyData × PyData) → Option PyData
  | [] => none
  | (dk, d) :: r => if nkD dk = some k then some d else findT k r
def putT (j : PyData) (k : NestedKey) (v : PyData) : List (PyData × PyData) → List (PyData × PyData)
  | [] => [(j, v)]
  | (dk, d) :: r => if nkD dk = some k then (dk, v) :: r else (dk, d) :: putT j k v r
def tkd : List (PyData × PyData) → Bool
  | (k, _) :: _ => isTk k
  | [] => false
section
variable {K : KW} {S : Hp}
theorem DxKV.find : ∀ {kvs : List (Key × V)} {ds : List (PyData × PyData)}, DxKV K S kvs ds → ∀ (k : Key), (∀ v, valV kvs k = some v → ∃ d, findD (keyD k) ds = some d ∧ Dx K S v d) ∧ (valV kvs k = none → findD (keyD k) ds = none)
  | _, _, .nil, k => ⟨fun v h => (by cases h), fun _ => rfl⟩
  | _, _, .cons (k := k') (v := v') (kvs := kvs) (d := d') (ds := ds) h r, k => by
    have ih := DxKV.find r k
    have e1 : valV ((k', v') :: kvs) k = if k' = k then some v' else valV kvs k := by
      unfold valV
      rw [List.find?_cons]
      by_cases z : k' = k
      · subst z; simp
      · rw [if_neg z]; simp [z]
    have e2 : findD (keyD k) ((keyD k', d') :: ds) = if k' = k then some d' else findD (keyD k) ds := by
      show (if keyB (keyD k') (keyD k) = true then _ else _) = _
      rw [keyB_eq]
      by_cases z : k' = k
      · rw [if_pos z, if_pos (decide_eq_true z)]
      · rw [if_neg z, if_neg (by simp [z])]
    rw [e1, e2]
    by_cases z : k' = k
    · rw [if_pos z, if_pos z]
      exact ⟨fun v e => ⟨d', rfl, Option.some.inj e ▸ h⟩, fun e => nomatch e⟩
    · rw [if_neg z, if_neg z]
      exact ih
theorem DxN.find : ∀ {xs : NEs} {ds : List (PyData × PyData)}, DxN K S xs ds → ∀ (k : NestedKey), (∀ v, atN xs k = some v → ∃ d, findT k ds = some d ∧ Dx K S v d) ∧ (atN xs k = none → findT k ds = none)
  | _, _, .nil, k => ⟨fun v h => (by cases h), fun _ => rfl⟩
  | _, _, .cons (k := k') (b := b) (v := v') (xs := xs) (dk := dk) (d := d') (ds := ds) hk e dp h r, k => by
    have ih := DxN.find r k
    have e1 : atN ((k', b, v') :: xs) k = if k' = k then some v' else atN xs k := by
      unfold atN
      rw [List.find?_cons]
      by_cases z : k' = k
      · subst z; simp
      · rw [if_neg z]; simp [z]
    have e2 : findT k ((dk, d') :: ds) = if k' = k then some d' else findT k ds := by
      show (if nkD dk = some k then _ else _) = _
      rw [e]
      by_cases z : k' = k
      · rw [if_pos z, if_pos (by rw [z])]
      · rw [if_neg z, if_neg (fun q => z (Option.some.inj q))]
    rw [e1, e2]
    by_cases z : k' = k
    · rw [if_pos z, if_pos z]
      exact ⟨fun v e => ⟨d', rfl, Option.some.inj e ▸ h⟩, fun e => nomatch e⟩
    · rw [if_neg z, if_neg z]
      exact ih
theorem DxN.put {v : V} {d : PyData} {a : Addr} {j : PyData} {k : NestedKey} (hj : Da K.K S (.ref a) j) (ej : nkD j = some k) (dpj : k.depth ≤ 8) (hd : Dx K S v d) : ∀ {xs : NEs} {ds : List (PyData × PyData)}, DxN K S xs ds → (xs.map (·.1)).Nodup → DxN K S (putN xs k a v) (putT j k d ds)
  | _, _, .nil, _ => .cons hj ej dpj hd .nil
  | _, _, .cons (k := k') (b := b) (v := v') (xs := xs) (dk := dk) (d := d') (ds := ds) hk e dp h r, n => by
    rw [List.map_cons, List.nodup_cons] at n
    have ih := DxN.put hj ej dpj hd r n.2
    by_cases z : k' = k
    · subst z
      have e1 : putN ((k', b, v') :: xs) k' a v = (k', b, v) :: xs := by
        unfold putN
        rw [if_pos (by unfold atN; simp), List.map_cons]
        rw [if_pos rfl]
        refine congrArg ((k', b, v) :: ·) ?_
        have : ∀ l : NEs, k' ∉ l.map (·.1) → (l.map fun x => if x.1 = k' then (x.1, x.2.1, v) else x) = l := fun l hl => by
          induction l with
          | nil => rfl
          | cons y l ih2 =>
            rw [List.map_cons, List.mem_cons, not_or] at hl
            rw [List.map_cons, if_neg (fun q => hl.1 q.symm), ih2 hl.2]
        exact this xs n.1
      have e2 : putT j k' d ((dk, d') :: ds) = (dk, d) :: ds := by
        show (if nkD dk = some k' then _ else _) = _
        rw [if_pos e]
      rw [e1, e2]
      exact .cons hk e dp hd r
    · have e1 : putN ((k', b, v') :: xs) k a v = (k', b, v') :: putN xs k a v := by
        have q : atN ((k', b, v') :: xs) k = atN xs k := by
          unfold atN
          rw [List.find?_cons]
          simp [z]
        unfold putN
        rw [q]
        split
        · rw [List.map_cons, if_neg z]
        · rfl
      have e2 : putT j k d ((dk, d') :: ds) = (dk, d') :: putT j k d ds := by
        show (if nkD dk = some k then _ else _) = _
        rw [if_neg (fun q => z (by rw [e] at q; exact Option.some.inj q))]
      rw [e1, e2]
      exact .cons hk e dp h ih
end
theorem nd_putN {xs : NEs} {k : NestedKey} {a : Addr} {v : V} (n : (xs.map (·.1)).Nodup) : ((putN xs k a v).map (·.1)).Nodup := by
  unfold putN
  split
  · have e : (xs.map fun x => if x.1 = k then (x.1, x.2.1, v) else x).map (·.1) = xs.map (·.1) := by
      rw [List.map_map]
      refine List.map_congr_left fun p _ => ?_
      show (if p.1 = k then (p.1, p.2.1, v) else p).1 = p.1
      split <;> rfl
    rw [e]
    exact n
  · rename_i h
    rw [List.map_append, List.nodup_append]
    refine ⟨n, by simp, fun x hx y hy q => ?_⟩
    have hy : y = k := by simpa using hy
    subst hy
    subst q
    refine h ?_
    obtain ⟨p, hp, e⟩ := List.mem_map.mp hx
    unfold atN
    rw [Option.isSome_map, List.find?_isSome]
    exact ⟨p, hp, decide_eq_true e⟩
theorem putN_ne {xs : NEs} {k : NestedKey} {a : Addr} {v : V} : putN xs k a v ≠ [] := by
  unfold putN
  split
  · rename_i h
    intro q
    have : xs = [] := List.map_eq_nil_iff.mp q
    rw [this] at h
    cases h
  · simp
end Kf

set_option Elab.async false
set_option linter.all false
set_option maxRecDepth 100000
set_option maxHeartbeats 2000000
namespace Kf
open PySem PySem.Spec PyProof.Rows L2 LamX NdefX
/-! ## slots, ownership -/
/-- no tuple, nothing frozen, no table -/
def noT : HO → Prop
  | .tup _ => False
  | .frz _ _ => False
  | .tbl _ => False
  | _ => True
theorem noT.nt {o : HO} (h : noT o) : ∀ ps, o ≠ .tbl ps := fun ps e => by subst e; exact h
/-- a thing that keeps its own counsel (the draw, a table of answers): where it stands, which addresses it changes, what is always true of it -/
structure Comp where
  ref : Addr
  mu : Addr → Prop
  κ : Hp → Prop
  ist : ∀ H H' : Hp, (∀ a o, mu a → H a = some o → (∀ ps, o ≠ .tbl ps) → H' a = some o) → κ H → κ H'
  nt : ∀ H a o, κ H → mu a → H a = some o → noT o
/-- what a name or an expression has: data that is never changed; a list or dict of one's own; another thing, by what is true of it; an instance that is never changed, its attributes data -/
inductive Rv where
  | d (x : PyData) | o (x : PyData) | a (φ : V → Hp → Prop) | ob (C : Addr) (fs : List (Str × PyData)) | m (c : Comp)
abbrev EnvD := List (Option Rv)
/-- whose an address is: a caller's, an expression's, a slot's -/
inductive Ow where
  | fr | tmp | mu | sl (i : Nat)
abbrev Owns := Addr → Option Ow
/-- what is shared -/
def hid (own : Owns) (H : Hp) : Hp := fun a => if (own a).isSome then none else H a
theorem hid_no {own : Owns} {H : Hp} {a : Addr} (h : own a = none) : hid own H a = H a := by unfold hid; rw [h]; rfl
theorem hid_own {own : Owns} {H : Hp} {a : Addr} {o : Ow} (h : own a = some o) : hid own H a = none := by unfold hid; rw [h]; rfl
theorem hid_some {own : Owns} {H : Hp} {a : Addr} {o : HO} (h : hid own H a = some o) : own a = none ∧ H a = some o := by
  unfold hid at h
  cases e : own a with
  | none => rw [e] at h; exact ⟨rfl, h⟩
  | some _ => rw [e] at h; cases h
theorem ex_sub {S H : Hp} (s : ∀ a o, S a = some o → H a = some o) : ExtN S H := fun b o h _ => s b o h
theorem hid_ex {own : Owns} {H : Hp} : ExtN (hid own H) H := ex_sub fun _ _ h => (hid_some h).2
theorem hid_step {own : Owns} {H H' : Hp} (s : ExtN H H') : ExtN (hid own H) (hid own H') := fun b o h n => by
  obtain ⟨h1, h2⟩ := hid_some h
  rw [hid_no h1]
  exact s b o h2 n
/-- less is hidden -/
theorem hid_less {own own' : Owns} {H : Hp} (s : ∀ a, own a = none → own' a = none) : ExtN (hid own H) (hid own' H) := fun b o h _ => by
  obtain ⟨h1, h2⟩ := hid_some h
  rw [hid_no (s _ h1)]
  exact h2
mutual
inductive DaF (K : KW) (S : Hp) : List (Str × V) → List (Str × PyData) → Prop
  | nil : DaF K S [] []
  | cons {k : Str} {v : V} {kvs : List (Str × V)} {d : PyData} {ds : List (Str × PyData)} : Dx K S v d → DaF K S kvs ds → DaF K S ((k, v) :: kvs) ((k, d) :: ds)
end
theorem DaF.sm {K : KW} {S S' : Hp} (s : ExtN S S') : ∀ {vs : List (Str × V)} {ds : List (Str × PyData)}, DaF K S vs ds → DaF K S' vs ds
  | _, _, .nil => .nil
  | _, _, .cons h r => .cons (Dx.sm s h) (DaF.sm s r)
theorem DaF.get {K : KW} {S : Hp} : ∀ {vs : List (Str × V)} {ds : List (Str × PyData)}, DaF K S vs ds → ∀ {f : Str} {d : PyData}, ds.lookup f = some d → ∃ v, vs.lookup f = some v ∧ Dx K S v d
  | _, _, .nil, f, d, h => by cases h
  | _, _, .cons (k := k) h r, f, d, e => by
    rw [List.lookup_cons] at e ⊢
    cases q : f == k with
    | true =>
      rw [q] at e
      cases e
      exact ⟨_, rfl, h⟩
    | false =>
      rw [q] at e
      exact DaF.get r e
/-- what an exception carries: its dict, none if it has none -/
def ExcD (K : KW) (S : Hp) (d : Option Addr) (fs : List (Str × PyData)) : Prop := match d with
  | none => fs = []
  | some dd => ∃ vs, S dd = some (.xd vs) ∧ DaF K S vs fs
theorem ExcD.sm {K : KW} {S S' : Hp} (s : ExtN S S') {d : Option Addr} {fs : List (Str × PyData)} (h : ExcD K S d fs) : ExcD K S' d fs := by
  cases d with
  | none => exact h
  | some dd =>
    obtain ⟨vs, h1, h2⟩ := h
    exact ⟨vs, exl s (by intro _ z; cases z) h1, h2.sm s⟩
/-- a thing that may be shared -/
def RvS (K : KW) (W : List Comp) (S : Hp) (v : V) : Rv → Prop
  | .m c => v = .ref c.ref ∧ c ∈ W
  | .d x => Dx K S v x
  | .a φ => ∀ S', ExtN S S' → φ v S'
  | .ob C fs => ∃ x dx vs, v = .ref x ∧ S x = some (.ins C dx vs) ∧ DaF K S vs fs
  | .o _ => False
theorem RvS.sm {K : KW} {W : List Comp} {S S' : Hp} (s : ExtN S S') {v : V} {r : Rv} (h : RvS K W S v r) : RvS K W S' v r := by
  cases r with
  | m c => exact h
  | d x => exact Dx.sm s h
  | o x => exact h
  | a φ => exact fun S2 s2 => h S2 (s.trans s2)
  | ob C fs =>
    obtain ⟨x, dx, vs, e, h1, h2⟩ := h
    exact ⟨x, dx, vs, e, exl s (by intro _ z; cases z) h1, h2.sm s⟩
/-- what one's own list or dict holds -/
def OwnAt (K : KW) (S H : Hp) (a : Addr) : PyData → Prop
  | .list ds => ∃ xs, H a = some (.lst xs) ∧ DxAll K S xs ds
  | .dict ds => (∃ kvs, H a = some (.dK kvs) ∧ (kvs.map (·.1)).Nodup ∧ DxKV K S kvs ds) ∨ ∃ xs, H a = some (NDict K.P K.w a xs) ∧ xs ≠ [] ∧ (xs.map (·.1)).Nodup ∧ DxN K S xs ds
  | _ => False
theorem OwnAt.sm {K : KW} {S S' H H' : Hp} {a : Addr} {x : PyData} (s : ExtN S S') (e : H' a = H a) (h : OwnAt K S H a x) : OwnAt K S' H' a x := by
  cases x with
  | list ds =>
    obtain ⟨xs, h1, h2⟩ := h
    exact ⟨xs, by rw [e]; exact h1, h2.sm s⟩
  | dict ds =>
    rcases h with ⟨kvs, h1, hn, h2⟩ | ⟨xs, h1, ne, hn, h2⟩
    · exact .inl ⟨kvs, by rw [e]; exact h1, hn, h2.sm s⟩
    · exact .inr ⟨xs, by rw [e]; exact h1, ne, hn, h2.sm s⟩
  | _ => exact h
theorem OwnAt.ext {K : KW} {S S' H H' : Hp} {a : Addr} {x : PyData} (s : ExtN S S') (t : ExtN H H') (h : OwnAt K S H a x) : OwnAt K S' H' a x := by
  cases x with
  | list ds =>
    obtain ⟨xs, h1, h2⟩ := h
    exact ⟨xs, exl t (by intro _ z; cases z) h1, h2.sm s⟩
  | dict ds =>
    rcases h with ⟨kvs, h1, hn, h2⟩ | ⟨xs, h1, ne, hn, h2⟩
    · exact .inl ⟨kvs, exl t (by intro _ z; cases z) h1, hn, h2.sm s⟩
    · exact .inr ⟨xs, exl t (by intro _ z; cases z) h1, ne, hn, h2.sm s⟩
  | _ => exact h
theorem OwnAt.there {K : KW} {S H : Hp} {a : Addr} {x : PyData} (h : OwnAt K S H a x) : H a ≠ none := by
  cases x with
  | list ds =>
    obtain ⟨xs, h1, h2⟩ := h
    rw [h1]
    exact nofun
  | dict ds =>
    rcases h with ⟨kvs, h1, h2⟩ | ⟨xs, h1, h2⟩ <;> (rw [h1]; exact nofun)
  | _ => exact h.elim
/-- .. as data, where it may be seen -/
theorem OwnAt.da {K : KW} {S H : Hp} {a : Addr} {x : PyData} (h : OwnAt K S H a x) (s : ExtN S H) : Dx K H (.ref a) x := by
  cases x with
  | list ds =>
    obtain ⟨xs, h1, h2⟩ := h
    exact .lst (.of h1) (h2.sm s)
  | dict ds =>
    rcases h with ⟨kvs, h1, hn, h2⟩ | ⟨xs, h1, ne, hn, h2⟩
    · exact .dct h1 hn (h2.sm s)
    · exact .dcn h1 ne hn (h2.sm s)
  | _ => exact h.elim
def RvAt (K : KW) (W : List Comp) (own : Owns) (H : Hp) (i : Ow) (v : V) : Rv → Prop
  | .o x => ∃ a, v = .ref a ∧ own a = some i ∧ OwnAt K (hid own H) H a x
  | r => RvS K W (hid own H) v r
theorem RvAt.of {K : KW} {W : List Comp} {own : Owns} {H : Hp} {i : Ow} {v : V} {r : Rv} (h : RvS K W (hid own H) v r) : RvAt K W own H i v r := by
  cases r with
  | o x => exact h.elim
  | _ => exact h
def muW (W : List Comp) (a : Addr) : Prop := ∃ c ∈ W, c.mu a
/-- what a def is given to change: the slot, the address -/
abbrev GV := List (Nat × Addr)
def gvA (gv : GV) (a : Addr) : Prop := ∃ i, (i, a) ∈ gv
/-- all stays but the tables and what X names -/
structure SmM (T : List NTab) (X : Addr → Prop) (H H' : Hp) : Prop where
  kp : ∀ b o, H b = some o → ¬ X b → (∀ ps, o ≠ .tbl ps) → H' b = some o
  nn : ∀ b, H' b = none → H b = none
  tb : TabsN T H → TabsN T H'
theorem SmM.up {T : List NTab} {X Y : Addr → Prop} {H H' : Hp} (s : SmM T X H H') (h : ∀ a, X a → Y a) : SmM T Y H H' := ⟨fun b o e m n => s.kp b o e (fun z => m (h b z)) n, s.nn, s.tb⟩
theorem Sm.m {T : List NTab} {W : Addr → Prop} {H H' : Hp} (s : Sm T H H') : SmM T W H H' := ⟨fun b o h _ n => s.kp b o h n, s.nn, s.tb⟩
theorem SmM.refl {T : List NTab} {W : Addr → Prop} {H : Hp} : SmM T W H H := (Sm.refl T H).m
theorem SmM.trans {T : List NTab} {W : Addr → Prop} {H H1 H2 : Hp} (a : SmM T W H H1) (b : SmM T W H1 H2) : SmM T W H H2 := ⟨fun x o h m n => b.kp x o (a.kp x o h m n) m n, fun x h => a.nn x (b.nn x h), fun t => b.tb (a.tb t)⟩
/-- where a def stands: the heaps at its entry (all, and what is shared) -/
structure Bas where
  T : List NTab
  K : KW
  H0 : Hp
  S0 : Hp
  W : List Comp
  gv : GV
  wx : WX
def Bas.chg (B : Bas) (a : Addr) : Prop := muW B.W a ∨ gvA B.gv a
/-- the things of W: their addresses are theirs, they are as they should be -/
structure WdOk (W : List Comp) (own : Owns) (H : Hp) : Prop where
  tg : ∀ a, muW W a → own a = some .mu
  kp : ∀ c ∈ W, c.κ H
  dj : ∀ c ∈ W, ∀ c' ∈ W, ∀ a, c.mu a → c'.mu a → c = c'
  hl : ∀ a w, own a = some w → muW W a ∨ ∃ o, H a = some o ∧ noT o
theorem WdOk.ext {W : List Comp} {own own' : Owns} {H H' : Hp} (w : WdOk W own H) (h : ∀ a, own a = some .mu → own' a = some .mu ∧ ∀ o, H a = some o → (∀ ps, o ≠ .tbl ps) → H' a = some o)
    (g : ∀ a w, own' a = some w → (∃ o, H' a = some o ∧ noT o) ∨ ((∃ w0, own a = some w0) ∧ ∀ o, H a = some o → noT o → ∃ o', H' a = some o' ∧ noT o')) : WdOk W own' H' :=
  ⟨fun a m => (h a (w.tg a m)).1, fun c hc => c.ist H H' (fun a o m e n => (h a (w.tg a ⟨c, hc, m⟩)).2 o e n) (w.kp c hc), w.dj, fun a w1 e => by
    rcases g a w1 e with q | ⟨⟨w0, e0⟩, q⟩
    · exact .inr q
    · rcases w.hl a w0 e0 with m | ⟨o, h1, h2⟩
      · exact .inl m
      · exact .inr (q o h1 h2)⟩
/-- where nothing of the heap is changed -/
theorem WdOk.ext0 {W : List Comp} {own own' : Owns} {H : Hp} (w : WdOk W own H) (h : ∀ a, own a = some .mu → own' a = some .mu) (g : ∀ a w, own' a = some w → ∃ w0, own a = some w0) : WdOk W own' H :=
  w.ext (fun a m => ⟨h a m, fun _ e _ => e⟩) fun a w1 e => .inr ⟨g a w1 e, fun o e n => ⟨o, e, n⟩⟩
structure Rep (B : Bas) (own : Owns) (σ : L2.St) (H : Hp) (E : EnvD) : Prop where
  len : σ.length = E.length
  al : ∀ a, H a = none → own a = none
  bs : SmM B.T B.chg B.H0 H
  ss : ExtN B.S0 (hid own H)
  tb : TabsN B.T H
  fr : ∀ a, B.H0 a ≠ none → B.S0 a = none → ¬ B.chg a → own a = some .fr
  nw : ∀ a o, own a = some o → o = .fr ∨ o = .mu ∨ (B.H0 a = none ∨ gvA B.gv a)
  wd : WdOk B.W own H
  sl : ∀ i r, E[i]? = some (some r) → ∃ v, σ[i]? = some (some v) ∧ RvAt B.K B.W own H (.sl i) v r
  pin : ∀ i a, (i, a) ∈ B.gv → ∀ x, E[i]? = some (some (.o x)) → σ[i]? = some (some (.ref a))
structure Evo (own : Owns) (H : Hp) (own' : Owns) (H' : Hp) : Prop where
  ex : ExtN (hid own H) (hid own' H')
  fr : ∀ a, own a = some .fr → own' a = some .fr ∧ ∀ o, H a = some o → (∀ ps, o ≠ .tbl ps) → H' a = some o
/-- what a step leaves: nothing that was is changed; what is shared stays shared -/
structure Stp (T : List NTab) (S H S' H' : Hp) : Prop where
  sm : Sm T H H'
  ss : ExtN S S'
  sub : ∀ a o, S' a = some o → H' a = some o
  sep : ∀ a, H a ≠ none → S a = none → S' a = none
/-- .. but what the things of W change -/
structure StpW (T : List NTab) (W : List Comp) (S H S' H' : Hp) : Prop where
  sm : SmM T (muW W) H H'
  ss : ExtN S S'
  sub : ∀ a o, S' a = some o → H' a = some o
  sep : ∀ a, H a ≠ none → S a = none → S' a = none
  kp : ∀ c ∈ W, c.κ H'
theorem Stp.w {T : List NTab} {W : List Comp} {S H S' H' : Hp} (s : Stp T S H S' H') (k : ∀ c ∈ W, c.κ H) : StpW T W S H S' H' := ⟨s.sm.m, s.ss, s.sub, s.sep, fun c hc => c.ist H H' (fun a o _ e n => s.sm.kp a o e n) (k c hc)⟩
section
variable {B : Bas} {own : Owns} {σ : L2.St} {H H' S' : Hp} {E : EnvD}
theorem Rep.stepW (R : Rep B own σ H E) (s : SmM B.T (muW B.W) H H') (k : ∀ c ∈ B.W, c.κ H') : Rep B own σ H' E ∧ Evo own H own H' := by
  have keep : ∀ b o, H b = some o → own b ≠ some .mu → (∀ ps, o ≠ .tbl ps) → H' b = some o := fun b o h m n => s.kp b o h (fun z => m (R.wd.tg b z)) n
  have ss : ExtN (hid own H) (hid own H') := fun b o h n => by
    obtain ⟨h1, h2⟩ := hid_some h
    rw [hid_no h1]
    exact keep b o h2 (by rw [h1]; nofun) n
  refine ⟨⟨R.len, fun a h => R.al a (s.nn a h), R.bs.trans (s.up fun _ h => .inl h), R.ss.trans ss, s.tb R.tb, R.fr, R.nw, ⟨R.wd.tg, k, R.wd.dj, fun a w e => by
    rcases Classical.em (muW B.W a) with m | m
    · exact .inl m
    · rcases R.wd.hl a w e with q | ⟨o, h1, h2⟩
      · exact .inl q
      · exact .inr ⟨o, s.kp a o h1 m h2.nt, h2⟩⟩, fun i r e => ?_, R.pin⟩, ⟨ss, fun a h => ⟨h, fun o e n => keep a o e (by rw [h]; nofun) n⟩⟩⟩
  obtain ⟨v, h1, h2⟩ := R.sl i r e
  refine ⟨v, h1, ?_⟩
  cases r with
  | o x =>
    obtain ⟨a, e1, e2, h3⟩ := h2
    refine ⟨a, e1, e2, ?_⟩
    cases x with
    | list ds =>
      obtain ⟨xs, g1, g2⟩ := h3
      exact ⟨xs, keep _ _ g1 (by rw [e2]; nofun) nofun, g2.sm ss⟩
    | dict ds =>
      rcases h3 with ⟨xs, g1, gn, g2⟩ | ⟨xs, g1, ne, gn, g2⟩
      · exact .inl ⟨xs, keep _ _ g1 (by rw [e2]; nofun) nofun, gn, g2.sm ss⟩
      · exact .inr ⟨xs, keep _ _ g1 (by rw [e2]; nofun) nofun, ne, gn, g2.sm ss⟩
    | _ => exact h3.elim
  | d x => exact RvS.sm (K := B.K) (W := B.W) (r := .d x) ss h2
  | a φ => exact RvS.sm (K := B.K) (W := B.W) (r := .a φ) ss h2
  | ob C fs => exact RvS.sm (K := B.K) (W := B.W) (r := .ob C fs) ss h2
  | m c => exact h2
theorem Rep.step (R : Rep B own σ H E) (s : Sm B.T H H') : Rep B own σ H' E :=
  (R.stepW s.m fun c hc => c.ist H H' (fun a o _ e n => s.kp a o e n) (R.wd.kp c hc)).1
/-- the shared part of what a step has left -/
theorem StpW.hid {T : List NTab} {W : List Comp} (s : StpW T W (hid own H) H S' H') (al : ∀ a, H a = none → own a = none) : ExtN S' (Kf.hid own H') := fun a o h n => by
  cases e : own a with
  | none =>
    rw [hid_no e]
    exact s.sub a o h
  | some w =>
    have h1 : H a ≠ none := fun z => by rw [al a z] at e; cases e
    rw [s.sep a h1 (hid_own e)] at h
    cases h
theorem Stp.hid {T : List NTab} (s : Stp T (hid own H) H S' H') (al : ∀ a, H a = none → own a = none) : ExtN S' (Kf.hid own H') := (s.w (W := []) nofun).hid al
theorem Stp.refl {T : List NTab} {S H : Hp} (s : ∀ a o, S a = some o → H a = some o) : Stp T S H S H := ⟨.refl _ _, .refl _, s, fun _ _ h => h⟩
theorem Stp.trans {T : List NTab} {S H S1 H1 S2 H2 : Hp} (a : Stp T S H S1 H1) (b : Stp T S1 H1 S2 H2) : Stp T S H S2 H2 :=
  ⟨a.sm.trans b.sm, a.ss.trans b.ss, b.sub, fun x h1 h2 => b.sep x (fun z => h1 (a.sm.nn x z)) (a.sep x h1 h2)⟩
/-- a new object that is shared -/
theorem Stp.new {T : List NTab} {S H : Hp} {p : Addr} {o : HO} (s : ∀ a o, S a = some o → H a = some o) (np : H p = none) : Stp T S H (upd S p o) (upd H p o) := by
  have ns : S p = none := by
    cases e : S p with
    | none => rfl
    | some u => rw [s _ _ e] at np; cases np
  refine ⟨Same.sm fun b u e => ?_, fun b u e _ => ?_, fun a u e => ?_, fun a h1 h2 => ?_⟩
  · rw [upd_ne (ne_of_none e np)]; exact e
  · rw [upd_ne (ne_of_none e ns)]; exact e
  · by_cases h : a = p
    · subst h
      rw [upd_same] at e ⊢
      exact e
    · rw [upd_ne h] at e ⊢
      exact s _ _ e
  · rw [upd_ne (fun z => h1 (by rw [z]; exact np))]
    exact h2
/-- a new object that is not -/
theorem Stp.newO {T : List NTab} {S H : Hp} {p : Addr} {o : HO} (s : ∀ a o, S a = some o → H a = some o) (np : H p = none) : Stp T S H S (upd H p o) := by
  refine ⟨Same.sm fun b u e => ?_, .refl _, fun a u e => ?_, fun a h1 h2 => h2⟩
  · rw [upd_ne (ne_of_none e np)]; exact e
  · rw [upd_ne (ne_of_none (s _ _ e) np)]; exact s _ _ e
end
end Kf

set_option Elab.async false
set_option linter.all false
set_option maxRecDepth 100000
set_option maxHeartbeats 2000000
namespace Kf
open PySem PySem.Spec PyProof.Rows L2 LamX NdefX
/-! ## readings without a heap -/
abbrev TV := EnvD → (Rv → EnvD → Prop) → Prop
abbrev TVs := EnvD → (List Rv → EnvD → Prop) → Prop
abbrev TTd := EnvD → (Bool → EnvD → Prop) → Prop
structure EndD where
  nx : EnvD → Prop
  rt : Rv → EnvD → Prop
  bk : EnvD → Prop := fun _ => False
  ct : EnvD → Prop := fun _ => False
  rs : Addr → List (Str × PyData) → EnvD → Prop := fun _ _ _ => False
abbrev TSD := EndD → EnvD → Prop
def Rv.toD (r : Rv) (R : PyData → EnvD → Prop) (E : EnvD) : Prop := match r with
  | .d x => R x E
  | .o x => R x E
  | _ => False
def liftE (B : Bas) (t : TV) : TE := fun σ H Q => ∃ own E R, Rep B own σ H E ∧ t E R ∧ ∀ r E' own' v H', R r E' → Evo own H own' H' → RvAt B.K B.W own' H' .tmp v r → Rep B own' σ H' E' → Q v H'
def liftD (B : Bas) (t : TV) : TE := fun σ H Q => ∃ own E R, Rep B own σ H E ∧ t E (fun r E' => r.toD R E') ∧ ∀ d E' own' v H', R d E' → Evo own H own' H' → Dx B.K (hid own' H') v d → Rep B own' σ H' E' → Q v H'
def liftA (B : Bas) (t : TVs) : TA := fun σ H Q => ∃ own E R, Rep B own σ H E ∧ t E R ∧ ∀ rs E' own' vs H', R rs E' → Evo own H own' H' → Paired (RvS B.K B.W (hid own' H')) vs rs → Rep B own' σ H' E' → Q vs H'
def liftT (B : Bas) (t : TTd) : TT := fun σ H Q => ∃ own E R, Rep B own σ H E ∧ t E R ∧ ∀ b E' own' H', R b E' → Evo own H own' H' → Rep B own' σ H' E' → Q b H'
def liftS (B : Bas) (t : TSD) : TS := fun D σ H => ∃ own E De, Rep B own σ H E ∧ t De E ∧ (∀ own' E' σ' H', De.nx E' → Evo own H own' H' → Rep B own' σ' H' E' → D.nx σ' H') ∧
  (∀ r own' E' σ' v H', De.rt r E' → RvAt B.K B.W own' H' .tmp v r → Rep B own' σ' H' E' → D.rt v H') ∧ (∀ own' E' σ' H', De.bk E' → Evo own H own' H' → Rep B own' σ' H' E' → D.bk σ' H') ∧ (∀ own' E' σ' H', De.ct E' → Evo own H own' H' → Rep B own' σ' H' E' → D.ct σ' H') ∧
  ∀ C fs own' E' σ' d H', De.rs C fs E' → Evo own H own' H' → ExcD B.K (hid own' H') d fs → Rep B own' σ' H' E' → B.wx (.ref C) d σ' H'
theorem Evo.refl (own : Owns) (H : Hp) : Evo own H own H := ⟨ExtN.refl _, fun a h => ⟨h, fun _ h _ => h⟩⟩
theorem Evo.trans {own own1 own2 : Owns} {H H1 H2 : Hp} (a : Evo own H own1 H1) (b : Evo own1 H1 own2 H2) : Evo own H own2 H2 := ⟨ExtN.trans a.ex b.ex, fun x h => ⟨(b.fr x (a.fr x h).1).1, fun o e n => (b.fr x (a.fr x h).1).2 o ((a.fr x h).2 o e n) n⟩⟩
theorem Evo.step {own : Owns} {H H' : Hp} (s : ExtN H H') : Evo own H own H' := ⟨hid_step s, fun a h => ⟨h, fun o e n => s a o e n⟩⟩
theorem PE_mono {X : Cx} {e : Expr} {t t' : TE} (h : PE X e t) (m : ∀ σ H Q, t' σ H Q → t σ H Q) : PE X e t' := ⟨fun pins s σ H Q I q => h.run pins s σ H Q I (m σ H Q q)⟩
theorem PA_mono {X : Cx} {e : List Expr} {t t' : TA} (h : PA X e t) (m : ∀ σ H Q, t' σ H Q → t σ H Q) : PA X e t' := ⟨fun pos pins s σ H Q I q => h.run pos pins s σ H Q I (m σ H Q q)⟩
theorem PT_mono {X : Cx} {e : Expr} {t t' : TT} (h : PT X e t) (m : ∀ σ H Q, t' σ H Q → t σ H Q) : PT X e t' := ⟨fun pins s σ H Q I q => h.run pins s σ H Q I (m σ H Q q)⟩
theorem PW_mono {X : Cx} {e : Expr} {t t' : TT} (h : PW X e t) (m : ∀ σ H Q, t' σ H Q → t σ H Q) : PW X e t' := ⟨fun wh pins s σ H Q I q => h.run wh pins s σ H Q I (m σ H Q q)⟩
theorem PS_mono {X : Cx} {e : Stmt} {t t' : TS} (h : PS X e t) (m : ∀ D σ H, t' D σ H → t D σ H) : PS X e t' := ⟨fun pins s σ H D I q => h.run pins s σ H D I (m D σ H q)⟩
theorem PSs_mono {X : Cx} {e : List Stmt} {t t' : TS} (h : PSs X e t) (m : ∀ D σ H, t' D σ H → t D σ H) : PSs X e t' := ⟨fun pins s σ H D I q => h.run pins s σ H D I (m D σ H q)⟩
/-! ### what is one's own is given up, is moved -/
def Owns.set (own : Owns) (a : Addr) (o : Option Ow) : Owns := fun b => if b = a then o else own b
theorem Owns.set_same {own : Owns} {a : Addr} {o : Option Ow} : own.set a o a = o := if_pos rfl
theorem Owns.set_ne {own : Owns} {a b : Addr} {o : Option Ow} (h : b ≠ a) : own.set a o b = own b := if_neg h
section
variable {B : Bas} {own : Owns} {σ : L2.St} {H H' S' : Hp} {E : EnvD}
theorem RvAt.sm {own' : Owns} {i : Ow} {v : V} {r : Rv} (s : ExtN (hid own H) (hid own' H')) (k : ∀ a, own a = some i → own' a = some i ∧ H' a = H a) (h : RvAt B.K B.W own H i v r) : RvAt B.K B.W own' H' i v r := by
  cases r with
  | o x =>
    obtain ⟨a, e1, e2, h3⟩ := h
    exact ⟨a, e1, (k a e2).1, h3.sm s (k a e2).2⟩
  | d x => exact RvS.sm (K := B.K) (W := B.W) (r := .d x) s h
  | a φ => exact RvS.sm (K := B.K) (W := B.W) (r := .a φ) s h
  | ob C fs => exact RvS.sm (K := B.K) (W := B.W) (r := .ob C fs) s h
  | m c => exact h
theorem less_of {a : Addr} {o : Option Ow} (h : own a ≠ none ∨ o = none) : ∀ b, own b = none → own.set a o b = none := fun b e => by
  by_cases z : b = a
  · subst z
    rcases h with h | h
    · exact absurd e h
    · rw [h]; exact Owns.set_same
  · rw [Owns.set_ne z]; exact e
/-- the address a changes hands -/
theorem Rep.hand {a : Addr} {w o : Option Ow} (R : Rep B own σ H E) (h : own a = w) (hw : w ≠ none) (n1 : w ≠ some .fr) (n2 : o ≠ some .fr) (n3 : w ≠ some .mu) (E' : EnvD) (hl : E'.length = E.length) (hp : ∀ (i : Nat) (x : PyData), E'[i]? = some (some (.o x)) → ∃ x', E[i]? = some (some (.o x')))
    (hs : ∀ i r, E'[i]? = some (some r) → (E[i]? = some (some r) ∧ ∀ j, w = some (.sl j) → j = i → ∀ x, r ≠ .o x) ∨ ∃ v, σ[i]? = some (some v) ∧ RvAt B.K B.W (own.set a o) H (.sl i) v r) :
    Rep B (own.set a o) σ H E' ∧ Evo own H (own.set a o) H := by
  have ss : ExtN (hid own H) (hid (own.set a o) H) := hid_less (less_of (.inl (by rw [h]; exact hw)))
  have evo : Evo own H (own.set a o) H := ⟨ss, fun b hb => ⟨by
    rw [Owns.set_ne (fun z => by subst z; rw [h] at hb; exact n1 hb)]
    exact hb, fun _ h _ => h⟩⟩
  refine ⟨⟨R.len.trans hl.symm, fun b e => ?_, R.bs, R.ss.trans ss, R.tb, fun b h1 h2 h3 => ?_, fun b u e => ?_, R.wd.ext0 (fun b hb => by
    rw [Owns.set_ne (fun z => by subst z; rw [h] at hb; exact n3 hb)]
    exact hb) (fun b w1 e => by
    by_cases z : b = a
    · subst z
      cases w with
      | none => exact absurd rfl hw
      | some w => exact ⟨w, h⟩
    · rw [Owns.set_ne z] at e
      exact ⟨w1, e⟩), fun i r e => ?_, fun i a' m x e => let ⟨x', e'⟩ := hp i x e; R.pin i a' m x' e'⟩, evo⟩
  · have e2 := R.al b e
    by_cases z : b = a
    · subst z
      rw [h] at e2
      exact absurd e2 hw
    · rw [Owns.set_ne z]; exact e2
  · have q := R.fr b h1 h2 h3
    by_cases z : b = a
    · subst z
      rw [h] at q
      exact absurd q n1
    · rw [Owns.set_ne z]; exact q
  · by_cases z : b = a
    · subst z
      rw [Owns.set_same] at e
      refine .inr (.inr ?_)
      cases w with
      | none => exact absurd rfl hw
      | some w =>
        rcases R.nw b w h with q | q | q
        · rw [q] at n1; exact absurd rfl n1
        · rw [q] at n3; exact absurd rfl n3
        · exact q
    · rw [Owns.set_ne z] at e
      exact R.nw b u e
  · rcases hs i r e with ⟨q, nq⟩ | q
    · obtain ⟨v, h1, h2⟩ := R.sl i r q
      refine ⟨v, h1, ?_⟩
      cases r with
      | o x =>
        obtain ⟨b, e1, e2, h3⟩ := h2
        have nb : b ≠ a := fun z => by
          subst z
          exact nq i (h.symm.trans e2) rfl x rfl
        exact ⟨b, e1, by rw [Owns.set_ne nb]; exact e2, h3.sm ss rfl⟩
      | d x => exact RvS.sm (K := B.K) (W := B.W) (r := .d x) ss h2
      | a φ => exact RvS.sm (K := B.K) (W := B.W) (r := .a φ) ss h2
      | ob C fs => exact RvS.sm (K := B.K) (W := B.W) (r := .ob C fs) ss h2
      | m c => exact h2
    · exact q
/-- a temporary is given up -/
theorem Rep.fz {v : V} {x : PyData} (R : Rep B own σ H E) (h : RvAt B.K B.W own H .tmp v (.o x)) : ∃ own', Rep B own' σ H E ∧ Evo own H own' H ∧ Dx B.K (hid own' H) v x := by
  obtain ⟨a, rfl, e, q⟩ := h
  obtain ⟨R', ev⟩ := R.hand (o := none) e nofun nofun nofun nofun E rfl (fun i x h => ⟨x, h⟩) fun i r er => .inl ⟨er, fun j ej => nomatch ej⟩
  refine ⟨_, R', ev, ?_⟩
  have ea : own.set a none a = none := Owns.set_same
  cases x with
  | list ds =>
    obtain ⟨xs, h1, h2⟩ := q
    exact .lst (.of (by rw [hid_no ea]; exact h1)) (h2.sm ev.ex)
  | dict ds =>
    rcases q with ⟨kvs, h1, hn, h2⟩ | ⟨xs, h1, ne, hn, h2⟩
    · exact .dct (by rw [hid_no ea]; exact h1) hn (h2.sm ev.ex)
    · exact .dcn (by rw [hid_no ea]; exact h1) ne hn (h2.sm ev.ex)
  | _ => exact q.elim
theorem set_at {i j : Nat} {u r : Option Rv} (h : (E.set i u)[j]? = some r) : (j = i ∧ r = u) ∨ (j ≠ i ∧ E[j]? = some r) := by
  by_cases z : j = i
  · subst z
    left
    have hl : j < E.length := by
      have := (List.getElem?_eq_some_iff.mp h).1
      simpa using this
    rw [List.getElem?_set_self hl] at h
    exact ⟨rfl, (Option.some.inj h).symm⟩
  · right
    rw [List.getElem?_set_ne (Ne.symm z)] at h
    exact ⟨z, h⟩
/-- a slot's own thing is given up -/
theorem Rep.fzS {i : Nat} {x : PyData} (R : Rep B own σ H E) (h : E[i]? = some (some (.o x))) : ∃ own' v, σ[i]? = some (some v) ∧ Rep B own' σ H (E.set i (some (.d x))) ∧ Evo own H own' H ∧ Dx B.K (hid own' H) v x := by
  obtain ⟨v, hv, a, rfl, e, q⟩ := R.sl i _ h
  have ea : own.set a none a = none := Owns.set_same
  have ss : ExtN (hid own H) (hid (own.set a none) H) := hid_less (less_of (.inl (by rw [e]; nofun)))
  have da : Dx B.K (hid (own.set a none) H) (.ref a) x := by
    cases x with
    | list ds =>
      obtain ⟨xs, h1, h2⟩ := q
      exact .lst (.of (by rw [hid_no ea]; exact h1)) (h2.sm ss)
    | dict ds =>
      rcases q with ⟨kvs, h1, hn, h2⟩ | ⟨xs, h1, ne, hn, h2⟩
      · exact .dct (by rw [hid_no ea]; exact h1) hn (h2.sm ss)
      · exact .dcn (by rw [hid_no ea]; exact h1) ne hn (h2.sm ss)
    | _ => exact q.elim
  obtain ⟨R', ev⟩ := R.hand (o := none) e nofun nofun nofun nofun (E.set i (some (.d x))) (by simp) (fun j y h => by
    rcases set_at h with ⟨rfl, e2⟩ | ⟨ne, e2⟩
    · cases e2
    · exact ⟨y, e2⟩) fun j r er => by
    rcases set_at er with ⟨rfl, e2⟩ | ⟨ne, e2⟩
    · cases e2
      exact .inr ⟨_, hv, da⟩
    · exact .inl ⟨e2, fun k ek ej => absurd ((Ow.sl.inj (Option.some.inj ek)).trans ej |>.symm) ne⟩
  exact ⟨_, _, hv, R', ev, da⟩
/-- .. is taken out -/
theorem Rep.mvS {i : Nat} {x : PyData} (R : Rep B own σ H E) (h : E[i]? = some (some (.o x))) : ∃ own' v, σ[i]? = some (some v) ∧ Rep B own' σ H (E.set i none) ∧ Evo own H own' H ∧ RvAt B.K B.W own' H .tmp v (.o x) := by
  obtain ⟨v, hv, a, rfl, e, q⟩ := R.sl i _ h
  obtain ⟨R', ev⟩ := R.hand (o := some .tmp) e nofun nofun nofun nofun (E.set i none) (by simp) (fun j y h => by
    rcases set_at h with ⟨rfl, e2⟩ | ⟨ne, e2⟩
    · cases e2
    · exact ⟨y, e2⟩) fun j r er => by
    rcases set_at er with ⟨rfl, e2⟩ | ⟨ne, e2⟩
    · cases e2
    · exact .inl ⟨e2, fun k ek ej => absurd ((Ow.sl.inj (Option.some.inj ek)).trans ej |>.symm) ne⟩
  exact ⟨_, _, hv, R', ev, a, rfl, Owns.set_same, q.sm ev.ex rfl⟩
/-- a value goes into a slot -/
theorem Rep.put {i : Nat} {v : V} {r : Rv} (R : Rep B own σ H E) (h : RvAt B.K B.W own H .tmp v r) (hi : i < E.length) (hio : ∀ a, (i, a) ∉ B.gv) : ∃ own', Rep B own' (σ.set i (some v)) H (E.set i (some r)) ∧ Evo own H own' H := by
  have hσ : i < σ.length := by rw [R.len]; exact hi
  have simple : RvS B.K B.W (hid own H) v r → ∃ own', Rep B own' (σ.set i (some v)) H (E.set i (some r)) ∧ Evo own H own' H := fun q => by
    refine ⟨own, ⟨by simp [R.len], R.al, R.bs, R.ss, R.tb, R.fr, R.nw, R.wd, fun j u e => ?_, fun j a m x e => by
      rcases set_at e with ⟨rfl, e2⟩ | ⟨ne, e2⟩
      · exact absurd m (hio a)
      · rw [List.getElem?_set_ne (Ne.symm ne)]; exact R.pin j a m x e2⟩, Evo.refl _ _⟩
    rcases set_at e with ⟨rfl, e2⟩ | ⟨ne, e2⟩
    · cases e2
      exact ⟨v, by rw [List.getElem?_set_self hσ], .of q⟩
    · obtain ⟨v', h1, h2⟩ := R.sl j u e2
      exact ⟨v', by rw [List.getElem?_set_ne (Ne.symm ne)]; exact h1, h2⟩
  cases r with
  | o x =>
    obtain ⟨a, rfl, e, q⟩ := h
    obtain ⟨R', ev⟩ := R.hand (o := some (.sl i)) e nofun nofun nofun nofun E rfl (fun i x h => ⟨x, h⟩) fun j r er => .inl ⟨er, fun k ek => nomatch ek⟩
    refine ⟨_, ⟨by simp [R'.len], R'.al, R'.bs, R'.ss, R'.tb, R'.fr, R'.nw, R'.wd, fun j u e => ?_, fun j a m x e => by
      rcases set_at e with ⟨rfl, e2⟩ | ⟨ne, e2⟩
      · exact absurd m (hio a)
      · rw [List.getElem?_set_ne (Ne.symm ne)]; exact R'.pin j a m x e2⟩, ev⟩
    rcases set_at e with ⟨rfl, e2⟩ | ⟨ne, e2⟩
    · cases e2
      exact ⟨_, by rw [List.getElem?_set_self hσ], a, rfl, Owns.set_same, q.sm ev.ex rfl⟩
    · obtain ⟨v', h1, h2⟩ := R'.sl j u e2
      exact ⟨v', by rw [List.getElem?_set_ne (Ne.symm ne)]; exact h1, h2⟩
  | d x => exact simple h
  | a φ => exact simple h
  | ob C fs => exact simple h
  | m c => exact simple h
theorem OwnAt.ldT {K : KW} {S H : Hp} {a : Addr} {x : PyData} (h : OwnAt K S H a x) : ∃ o, H a = some o ∧ noT o := by
  cases x with
  | list ds =>
    obtain ⟨xs, h1, h2⟩ := h
    exact ⟨_, h1, trivial⟩
  | dict ds =>
    rcases h with ⟨kvs, h1, h2⟩ | ⟨xs, h1, h2⟩ <;> exact ⟨_, h1, trivial⟩
  | _ => exact h.elim
/-- what a step hands back -/
def RvN (K : KW) (W : List Comp) (H S' H' : Hp) (v : V) : Rv → Prop
  | .o x => ∃ p, v = .ref p ∧ H p = none ∧ S' p = none ∧ OwnAt K S' H' p x
  | r => RvS K W S' v r
theorem Rep.resW {v : V} {r : Rv} (R : Rep B own σ H E) (s : StpW B.T B.W (hid own H) H S' H') (h : RvN B.K B.W H S' H' v r) : ∃ own', Rep B own' σ H' E ∧ Evo own H own' H' ∧ RvAt B.K B.W own' H' .tmp v r := by
  have sh : ExtN S' (hid own H') := s.hid R.al
  obtain ⟨R2, evo2⟩ := R.stepW s.sm s.kp
  cases r with
  | o x =>
    obtain ⟨p, rfl, np, ns, q⟩ := h
    have op : own p = none := R.al p np
    have eh : ∀ b, b ≠ p → hid (own.set p (some .tmp)) H' b = hid own H' b := fun b nb => by unfold hid; rw [Owns.set_ne nb]
    have st : ExtN S' (hid (own.set p (some .tmp)) H') := fun b o e n => by
      have nb : b ≠ p := fun z => by subst z; rw [ns] at e; cases e
      rw [eh b nb]
      exact sh b o e n
    have ev : ExtN (hid own H) (hid (own.set p (some .tmp)) H') := fun b o e n => by
      obtain ⟨h1, h2⟩ := hid_some e
      rw [eh b (ne_of_none h2 np)]
      exact evo2.ex b o e n
    have ev2 : ∀ {v : V} {r : Rv}, RvS B.K B.W (hid own H') v r → RvS B.K B.W (hid own H') v r := fun h => h
    have evo : Evo own H (own.set p (some .tmp)) H' := ⟨ev, fun b hb => ⟨by
      rw [Owns.set_ne (fun z => by subst z; rw [op] at hb; cases hb)]
      exact hb, (evo2.fr b hb).2⟩⟩
    have n0 : B.H0 p = none := R.bs.nn _ np
    refine ⟨own.set p (some .tmp), ⟨R.len, fun b e => ?_, R2.bs, R.ss.trans ev, R2.tb, fun b h1 h2 h3 => ?_, fun b u e => ?_, R2.wd.ext (fun b hb => ⟨by
      rw [Owns.set_ne (fun z => by subst z; rw [op] at hb; cases hb)]
      exact hb, fun _ h _ => h⟩) (fun b w1 e => by
      by_cases z : b = p
      · subst z
        exact .inl (by
          obtain ⟨o, h1, h2⟩ := q.ldT
          exact ⟨o, h1, h2⟩)
      · rw [Owns.set_ne z] at e
        exact .inr ⟨⟨w1, e⟩, fun o e n => ⟨o, e, n⟩⟩), fun i r e => ?_, R.pin⟩, evo, p, rfl, Owns.set_same, q.sm st rfl⟩
    · have nb : b ≠ p := fun z => by subst z; exact q.there e
      rw [Owns.set_ne nb]
      exact R2.al b e
    · rw [Owns.set_ne (fun z => by subst z; exact h1 n0)]
      exact R.fr b h1 h2 h3
    · by_cases z : b = p
      · subst z
        exact .inr (.inr (.inl n0))
      · rw [Owns.set_ne z] at e
        exact R.nw b u e
    · -- the slots: by the old heap, where p was not
      obtain ⟨v, h1, h2⟩ := R.sl i r e
      refine ⟨v, h1, ?_⟩
      cases r with
      | o y =>
        obtain ⟨b, e1, e2, h3⟩ := h2
        have nb : b ≠ p := fun z => by subst z; rw [op] at e2; cases e2
        obtain ⟨v', h1', b', e1', e2', h3'⟩ := R2.sl i _ e
        rw [h1] at h1'
        cases h1'
        rw [e1] at e1'
        cases e1'
        refine ⟨b, e1, by rw [Owns.set_ne nb]; exact e2, ?_⟩
        cases y with
        | list ds =>
          obtain ⟨xs, g1, g2⟩ := h3
          obtain ⟨xs', g1', g2'⟩ := h3'
          have : H' b = some (.lst xs) := s.sm.kp b _ g1 (fun z => by rw [R.wd.tg b z] at e2; cases e2) nofun
          exact ⟨xs, this, g2.sm ev⟩
        | dict ds =>
          rcases h3 with ⟨xs, g1, gn, g2⟩ | ⟨xs, g1, ne, gn, g2⟩
          · exact .inl ⟨xs, s.sm.kp b _ g1 (fun z => by rw [R.wd.tg b z] at e2; cases e2) nofun, gn, g2.sm ev⟩
          · exact .inr ⟨xs, s.sm.kp b _ g1 (fun z => by rw [R.wd.tg b z] at e2; cases e2) nofun, ne, gn, g2.sm ev⟩
        | _ => exact h3.elim
      | d x => exact RvS.sm (K := B.K) (W := B.W) (r := .d x) ev h2
      | a φ => exact RvS.sm (K := B.K) (W := B.W) (r := .a φ) ev h2
      | ob C fs => exact RvS.sm (K := B.K) (W := B.W) (r := .ob C fs) ev h2
      | m c => exact h2
  | d x => exact ⟨own, R2, evo2, RvS.sm (K := B.K) (W := B.W) (r := .d x) sh h⟩
  | a φ => exact ⟨own, R2, evo2, RvS.sm (K := B.K) (W := B.W) (r := .a φ) sh h⟩
  | ob C fs => exact ⟨own, R2, evo2, RvS.sm (K := B.K) (W := B.W) (r := .ob C fs) sh h⟩
  | m c => exact ⟨own, R2, evo2, h⟩
theorem Rep.res {v : V} {r : Rv} (R : Rep B own σ H E) (s : Stp B.T (hid own H) H S' H') (h : RvN B.K B.W H S' H' v r) : ∃ own', Rep B own' σ H' E ∧ Evo own H own' H' ∧ RvAt B.K B.W own' H' .tmp v r := R.resW (s.w R.wd.kp) h
end
end Kf

set_option Elab.async false
set_option linter.all false
set_option maxRecDepth 100000
set_option maxHeartbeats 2000000
namespace Kf
open PySem PySem.Spec PyProof.Rows L2 LamX NdefX
abbrev Sub (S H : Hp) : Prop := ∀ a o, S a = some o → H a = some o
theorem hid_sub {own : Owns} {H : Hp} : Sub (hid own H) H := fun _ _ h => (hid_some h).2
section
variable {X : Cx} {B : Bas} {a b e : Expr} {es : List Expr} {ta tb t : TV} {ts : TVs} {pos : Pos}
/-- what is one's own is given up -/
theorem ev_D (h : PE X e (liftE B t)) : PE X e (liftD B t) := PE_mono h fun σ H Q hq => by
  obtain ⟨own, E, R, rep, ht, k⟩ := hq
  refine ⟨own, E, _, rep, ht, fun r E' own' v H' hr ev ra rep' => ?_⟩
  cases r with
  | d x => exact k x E' own' v H' hr ev ra rep'
  | o x =>
    obtain ⟨own2, rep2, ev2, da⟩ := rep'.fz ra
    exact k x E' own2 v H' hr (ev.trans ev2) da rep2
  | a φ => exact hr.elim
  | ob C fs => exact hr.elim
  | m c => exact hr.elim
/-! ### names, constants -/
def dVar (i : Nat) : TV := fun E R => match E[i]? with
  | some (some (.o x)) => R (.d x) (E.set i (some (.d x)))
  | some (some r) => R r E
  | _ => False
def dMv (i : Nat) : TV := fun E R => match E[i]? with
  | some (some (.o x)) => R (.o x) (E.set i none)
  | some (some r) => R r E
  | _ => False
def dC (d : PyData) : TV := fun E R => R (.d d) E
theorem ev_name {i : Nat} {x : Str} (h : PE X (.Name x pos) (tVar i)) : PE X (.Name x pos) (liftE B (dVar i)) := PE_mono h fun σ H Q hq => by
  obtain ⟨own, E, R, rep, ht, k⟩ := hq
  unfold dVar at ht
  cases e : E[i]? with
  | none => rw [e] at ht; exact ht.elim
  | some w =>
    cases w with
    | none => rw [e] at ht; exact ht.elim
    | some r =>
      rw [e] at ht
      have plain : R r E → (∀ x, r ≠ .o x) → tVar i σ H Q := fun ht nr => by
        obtain ⟨v, hv, ra⟩ := rep.sl i r e
        refine ⟨v, hv, k r E own v H ht (Evo.refl _ _) ?_ rep⟩
        cases r with
        | o x => exact absurd rfl (nr x)
        | _ => exact ra
      cases r with
      | o x =>
        obtain ⟨own', v, hv, rep', ev, da⟩ := rep.fzS e
        exact ⟨v, hv, k (.d x) _ own' v H ht ev da rep'⟩
      | d x => exact plain ht nofun
      | a φ => exact plain ht nofun
      | ob C fs => exact plain ht nofun
      | m c => exact plain ht nofun
theorem ev_mv {i : Nat} {x : Str} (h : PE X (.Name x pos) (tVar i)) : PE X (.Name x pos) (liftE B (dMv i)) := PE_mono h fun σ H Q hq => by
  obtain ⟨own, E, R, rep, ht, k⟩ := hq
  unfold dMv at ht
  cases e : E[i]? with
  | none => rw [e] at ht; exact ht.elim
  | some w =>
    cases w with
    | none => rw [e] at ht; exact ht.elim
    | some r =>
      rw [e] at ht
      have plain : R r E → (∀ x, r ≠ .o x) → tVar i σ H Q := fun ht nr => by
        obtain ⟨v, hv, ra⟩ := rep.sl i r e
        refine ⟨v, hv, k r E own v H ht (Evo.refl _ _) ?_ rep⟩
        cases r with
        | o x => exact absurd rfl (nr x)
        | _ => exact ra
      cases r with
      | o x =>
        obtain ⟨own', v, hv, rep', ev, ra⟩ := rep.mvS e
        exact ⟨v, hv, k (.o x) _ own' v H ht ev ra rep'⟩
      | d x => exact plain ht nofun
      | a φ => exact plain ht nofun
      | ob C fs => exact plain ht nofun
      | m c => exact plain ht nofun
theorem ev_const {v : V} {d : PyData} (h : PE X e (tC v)) (hd : ∀ S, Dx B.K S v d) : PE X e (liftE B (dC d)) := PE_mono h fun σ H Q hq => by
  obtain ⟨own, E, R, rep, ht, k⟩ := hq
  exact k (.d d) E own v H ht (Evo.refl _ _) (hd _) rep
theorem ev_int {i : Int} {j : Nat} : PE X (.Constant (.int i) j pos) (liftE B (dC (.int i))) := ev_const pe_int fun _ => .int i
theorem ev_bl {b : Bool} {j : Nat} : PE X (.Constant (.bool b) j pos) (liftE B (dC (.bool b))) := ev_const pe_bl fun _ => .bl b
theorem ev_non {j : Nat} : PE X (.Constant .none j pos) (liftE B (dC .none)) := ev_const pe_non fun _ => .non
theorem ev_str {x : Str} {j : Nat} : PE X (.Constant (.str x) j pos) (liftE B (dC (.str x))) := ev_const pe_str fun _ => .str x
/-! ### two-place operations -/
def OpG (B : Bas) (r : R2) (g : PyData → PyData → (Rv → Prop) → Prop) : Prop := ∀ (S H : Hp) (v1 v2 : V) (d1 d2 : PyData) (k : Rv → Prop) (Q : VK), Sub S H → Dx B.K S v1 d1 → Dx B.K S v2 d2 → g d1 d2 k →
  (∀ rv v S' H', k rv → Stp B.T S H S' H' → RvN B.K B.W H S' H' v rv → Q v H') → r v1 v2 H Q
def dOp (g : PyData → PyData → (Rv → Prop) → Prop) (ta tb : TV) : TV := fun E R => ta E fun r1 E1 => r1.toD (fun d1 E1 => tb E1 fun r2 E2 => r2.toD (fun d2 E2 => g d1 d2 fun r => R r E2) E2) E1
theorem opE {r : R2} {g : PyData → PyData → (Rv → Prop) → Prop} (hg : OpG B r g) {σ : L2.St} {H : Hp} {Q : VK} (hq : liftE B (dOp g ta tb) σ H Q) : tOp r (liftD B ta) (liftD B tb) σ H Q := by
  obtain ⟨own, E, R, rep, ht, k⟩ := hq
  refine ⟨own, E, _, rep, ht, fun d1 E1 own1 v1 H1 q1 ev1 da1 rep1 => ⟨own1, E1, _, rep1, q1, fun d2 E2 own2 v2 H2 q2 ev2 da2 rep2 => ?_⟩⟩
  refine hg (hid own2 H2) H2 v1 v2 d1 d2 _ _ hid_sub (Dx.sm ev2.ex da1) da2 q2 fun rv v S' H' hk st rn => ?_
  obtain ⟨own3, rep3, ev3, ra⟩ := rep2.res st rn
  exact k rv E2 own3 v H' hk ((ev1.trans ev2).trans ev3) ra rep3
theorem ev_op {op : Operator} {r : R2} {g : PyData → PyData → (Rv → Prop) → Prop} (ho : OpR X (binaryOp op) r) (hg : OpG B r g) (ha : PE X a (liftE B ta)) (hb : PE X b (liftE B tb)) : PE X (.BinOp a op b pos) (liftE B (dOp g ta tb)) :=
  PE_mono (pe_op ho (ev_D ha) (ev_D hb)) fun _ _ _ => opE hg
theorem ev_cmp {op : CmpOp} {r : R2} {g : PyData → PyData → (Rv → Prop) → Prop} (ho : OpR X (compareOp op) r) (hg : OpG B r g) (ha : PE X a (liftE B ta)) (hb : PE X b (liftE B tb)) (hm : behindInMarks op b = false) : PE X (.Compare a [op] [b] pos) (liftE B (dOp g ta tb)) :=
  PE_mono (pe_cmpR ho (ev_D ha) (ev_D hb) hm) fun _ _ _ => opE hg
theorem ev_ix {r : R2} {g : PyData → PyData → (Rv → Prop) → Prop} (hr : IxR X r) (hg : OpG B r g) (ha : PE X a (liftE B ta)) (hb : PE X b (liftE B tb)) (hs : PlainIx b) : PE X (.Subscript a b pos) (liftE B (dOp g ta tb)) :=
  PE_mono (pe_ix hr (ev_D ha) (ev_D hb) hs) fun _ _ _ => opE hg
theorem OpG.or {r r' : R2} {g g' : PyData → PyData → (Rv → Prop) → Prop} (h : OpG B r g) (h' : OpG B r' g') : OpG B (fun x y H Q => r x y H Q ∨ r' x y H Q) (fun d e k => g d e k ∨ g' d e k) := fun S H v1 v2 d1 d2 k Q s a1 a2 q f => by
  rcases q with q | q
  · exact .inl (h S H v1 v2 d1 d2 k Q s a1 a2 q f)
  · exact .inr (h' S H v1 v2 d1 d2 k Q s a1 a2 q f)
/-! ### arguments -/
def Rv.stb (r : Rv) (R : Rv → EnvD → Prop) (E : EnvD) : Prop := match r with
  | .o x => R (.d x) E
  | r => R r E
def dNil : TVs := fun E R => R [] E
def dCons (t : TV) (ts : TVs) : TVs := fun E R => t E fun r E1 => r.stb (fun r E1 => ts E1 fun rs E2 => R (r :: rs) E2) E1
theorem ea_nil : PA X [] (liftA B dNil) := PA_mono pa_nil fun σ H Q hq => by
  obtain ⟨own, E, R, rep, ht, k⟩ := hq
  exact k [] E own [] H ht (Evo.refl _ _) .nil rep
theorem pairS {own own' : Owns} {H H' : Hp} (ev : Evo own H own' H') : ∀ {vs : List V} {rs : List Rv}, Paired (RvS B.K B.W (hid own H)) vs rs → Paired (RvS B.K B.W (hid own' H')) vs rs
  | _, _, .nil => .nil
  | _, _, .cons h r => .cons (RvS.sm ev.ex h) (pairS ev r)
theorem ev_S (h : PE X e (liftE B t)) : PE X e (fun σ H Q => ∃ own E R, Rep B own σ H E ∧ t E (fun r E' => r.stb R E') ∧ ∀ r E' own' v H', R r E' → Evo own H own' H' → RvS B.K B.W (hid own' H') v r → Rep B own' σ H' E' → Q v H') := PE_mono h fun σ H Q hq => by
  obtain ⟨own, E, R, rep, ht, k⟩ := hq
  refine ⟨own, E, _, rep, ht, fun r E' own' v H' hr ev ra rep' => ?_⟩
  cases r with
  | d x => exact k (.d x) E' own' v H' hr ev ra rep'
  | o x =>
    obtain ⟨own2, rep2, ev2, da⟩ := rep'.fz ra
    exact k (.d x) E' own2 v H' hr (ev.trans ev2) da rep2
  | a φ => exact k (.a φ) E' own' v H' hr ev ra rep'
  | ob C fs => exact k (.ob C fs) E' own' v H' hr ev ra rep'
  | m c => exact k (.m c) E' own' v H' hr ev ra rep'
theorem ea_cons (ha : PE X e (liftE B t)) (hr : PA X es (liftA B ts)) (hs : starEach (e :: es) X.env = (false, eval e X.env) :: starEach es X.env := by rfl) : PA X (e :: es) (liftA B (dCons t ts)) := PA_mono (pa_cons (ev_S ha) hr hs) fun σ H Q hq => by
  obtain ⟨own, E, R, rep, ht, k⟩ := hq
  refine ⟨own, E, _, rep, ht, fun r E1 own1 v H1 q1 ev1 rs1 rep1 => ⟨own1, E1, _, rep1, q1, fun rs E2 own2 vs H2 q2 ev2 rs2 rep2 => ?_⟩⟩
  exact k (r :: rs) E2 own2 (v :: vs) H2 q2 (ev1.trans ev2) (.cons (RvS.sm ev2.ex rs1) rs2) rep2
/-- all of them data -/
def datas : List Rv → Option (List PyData)
  | [] => some []
  | .d x :: r => (datas r).map (x :: ·)
  | _ => none
theorem datas_da {S : Hp} : ∀ {vs : List V} {rs : List Rv} {ds : List PyData}, Paired (RvS B.K B.W S) vs rs → datas rs = some ds → DxAll B.K S vs ds
  | _, _, _, .nil, h => by cases h; exact .nil
  | _, _, _, .cons (b := b) h r, e => by
    cases b with
    | d x =>
      unfold datas at e
      cases e2 : datas _ with
      | none => rw [e2] at e; cases e
      | some ds =>
        rw [e2] at e
        cases e
        exact .cons h (datas_da r e2)
    | o x => cases e
    | a φ => cases e
    | ob C fs => cases e
    | m c => cases e
def toDs (rs : List Rv) (R : List PyData → Prop) : Prop := match datas rs with
  | some ds => R ds
  | none => False
/-! ### calls of builtins -/
def CallG (B : Bas) (r : List V → Hp → VK → Prop) (g : List PyData → (Rv → Prop) → Prop) : Prop := ∀ (S H : Hp) (vs : List V) (ds : List PyData) (k : Rv → Prop) (Q : VK), Sub S H → DxAll B.K S vs ds → g ds k →
  (∀ rv v S' H', k rv → Stp B.T S H S' H' → RvN B.K B.W H S' H' v rv → Q v H') → r vs H Q
def dCall (g : List PyData → (Rv → Prop) → Prop) (ts : TVs) : TV := fun E R => ts E fun rs E1 => toDs rs fun ds => g ds fun r => R r E1
theorem callE {r : List V → Hp → VK → Prop} {g : List PyData → (Rv → Prop) → Prop} (hg : CallG B r g) {σ : L2.St} {H : Hp} {Q : VK} (hq : liftE B (dCall g ts) σ H Q) : tCB r (liftA B ts) σ H Q := by
  obtain ⟨own, E, R, rep, ht, k⟩ := hq
  refine ⟨own, E, _, rep, ht, fun rs E1 own1 vs H1 q1 ev1 rs1 rep1 => ?_⟩
  unfold toDs at q1
  cases e : datas rs with
  | none => rw [e] at q1; exact q1.elim
  | some ds =>
    rw [e] at q1
    refine hg (hid own1 H1) H1 vs ds _ _ hid_sub (datas_da rs1 e) q1 fun rv v S' H' hk st rn => ?_
    obtain ⟨own3, rep3, ev3, ra⟩ := rep1.res st rn
    exact k rv E1 own3 v H' hk (ev1.trans ev3) ra rep3
theorem ev_callB {x : Str} {id : String} {p : Pos} {r : List V → Hp → VK → Prop} {g : List PyData → (Rv → Prop) → Prop} (hc : CallR X (.builtin id) r) (hg : CallG B r g) (hgl : Gl X x) (hm : X.mg x = none) (hv : bootBuiltins x = some (.builtin id)) (ha : PA X (e :: es) (liftA B ts))
    (hn : x ≠ "__name__" := by decide) (hdb : (x == ("__debug__" : Str)) = false := by decide) (he : starEach (e :: es) X.env = (false, eval e X.env) :: starEach es X.env := by rfl) (hpl : (backTo pos (starEach es X.env)).any (·.1) = false := by rfl) :
    PE X (.Call (.Name x p) (e :: es) [] pos) (liftE B (dCall g ts)) := PE_mono (pe_callB hc hgl hm hv ha hn hdb he hpl) fun _ _ _ => callE hg
theorem ev_callTy {x : Str} {T : String} {p : Pos} {r : List V → Hp → VK → Prop} {g : List PyData → (Rv → Prop) → Prop} (hc : CallR X (.type T) r) (hg : CallG B r g) (hgl : Gl X x) (hm : X.mg x = none) (hv : bootBuiltins x = some (.type T)) (ha : PA X (e :: es) (liftA B ts))
    (hn : x ≠ "__name__" := by decide) (hdb : (x == ("__debug__" : Str)) = false := by decide) (he : starEach (e :: es) X.env = (false, eval e X.env) :: starEach es X.env := by rfl) (hpl : (backTo pos (starEach es X.env)).any (·.1) = false := by rfl) :
    PE X (.Call (.Name x p) (e :: es) [] pos) (liftE B (dCall g ts)) := PE_mono (pe_callTy hc hgl hm hv ha hn hdb he hpl) fun _ _ _ => callE hg
/-! ### displays -/
def dTup (ts : TVs) : TV := fun E R => ts E fun rs E1 => toDs rs fun ds => ds.length ≤ sizeLine ∧ R (.d (.tuple ds)) E1
def dLst (ts : TVs) : TV := fun E R => ts E fun rs E1 => toDs rs fun ds => ds.length ≤ sizeLine ∧ R (.o (.list ds)) E1
theorem ev_tup {x1 : Nat} (h : PA X es (liftA B ts)) : PE X (.Tuple es x1 pos) (liftE B (dTup ts)) := PE_mono (pe_tup h) fun σ H Q hq => by
  obtain ⟨own, E, R, rep, ht, k⟩ := hq
  refine ⟨own, E, _, rep, ht, fun rs E1 own1 vs H1 q1 ev1 rs1 rep1 => ?_⟩
  unfold toDs at q1
  cases e : datas rs with
  | none => rw [e] at q1; exact q1.elim
  | some ds =>
    rw [e] at q1
    have da := datas_da rs1 e
    refine ⟨by rw [da.len]; exact q1.1, fun p np => ?_⟩
    have st : Stp B.T (hid own1 H1) H1 _ _ := Stp.new (o := .tup vs) hid_sub np
    obtain ⟨own3, rep3, ev3, ra⟩ := rep1.res (r := .d (.tuple ds)) (v := .ref p) st (Dx.tup (.of upd_same) (da.sm st.ss))
    exact k _ E1 own3 _ _ q1.2 (ev1.trans ev3) ra rep3
theorem ev_lst (h : PA X es (liftA B ts)) : PE X (.List es pos) (liftE B (dLst ts)) := PE_mono (pe_lst h) fun σ H Q hq => by
  obtain ⟨own, E, R, rep, ht, k⟩ := hq
  refine ⟨own, E, _, rep, ht, fun rs E1 own1 vs H1 q1 ev1 rs1 rep1 => ?_⟩
  unfold toDs at q1
  cases e : datas rs with
  | none => rw [e] at q1; exact q1.elim
  | some ds =>
    rw [e] at q1
    have da := datas_da rs1 e
    refine ⟨by rw [da.len]; exact q1.1, fun p np => ?_⟩
    have st : Stp B.T (hid own1 H1) H1 _ _ := Stp.newO (o := .lst vs) hid_sub np
    have ns : hid own1 H1 p = none := by
      cases z : hid own1 H1 p with
      | none => rfl
      | some u => rw [hid_sub _ _ z] at np; cases np
    obtain ⟨own3, rep3, ev3, ra⟩ := rep1.res (r := .o (.list ds)) (v := .ref p) st ⟨p, rfl, np, ns, vs, upd_same, da⟩
    exact k _ E1 own3 _ _ q1.2 (ev1.trans ev3) ra rep3
end
end Kf

set_option Elab.async false
set_option linter.all false
set_option maxRecDepth 100000
set_option maxHeartbeats 2000000
namespace Kf
open PySem PySem.Spec PyProof.Rows L2 LamX NdefX
/-! ## operations on data -/
theorem atD {K : KW} {S : Hp} {xs : List V} {ds : List PyData} (h : DxAll K S xs ds) {i : Int} {d : PyData} (e : atI ds i = some d) : ∃ x, atI xs i = some x ∧ Dx K S x d := by
  unfold atI at e ⊢
  rw [h.len]
  cases q : ixN ds.length i with
  | none => rw [q] at e; cases e
  | some j =>
    rw [q] at e
    exact h.getD e
theorem sqL_sub {K : KW} {S H : Hp} {a : Addr} {xs : List V} (s : Sub S H) (h : SqL K S a xs) : SqL K H a xs := ex_sqL (ex_sub s) h
theorem sqT_sub {K : KW} {S H : Hp} {a : Addr} {xs : List V} (s : Sub S H) (h : SqT K S a xs) : SqT K H a xs := ex_sqT (ex_sub s) h
theorem da_sub {K : KW} {S H : Hp} {v : V} {d : PyData} (s : Sub S H) (h : Dx K S v d) : Dx K H v d := Dx.sm (ex_sub s) h
section
variable {B : Bas} {S H : Hp}
theorem sub_none {p : Addr} (s : Sub S H) (np : H p = none) : S p = none := by
  cases z : S p with
  | none => rfl
  | some u => rw [s _ _ z] at np; cases np
/-- the ends of an operation: a value that is there; a new tuple; a new list -/
theorem fin_d {k : Rv → Prop} {Q : VK} {v : V} {d : PyData} (s : Sub S H) (f : ∀ rv v S' H', k rv → Stp B.T S H S' H' → RvN B.K B.W H S' H' v rv → Q v H') (hk : k (.d d)) (h : Dx B.K S v d) : Q v H := f (.d d) v S H hk (Stp.refl s) h
theorem fin_t {k : Rv → Prop} {Q : VK} {xs : List V} {ds : List PyData} (s : Sub S H) (f : ∀ rv v S' H', k rv → Stp B.T S H S' H' → RvN B.K B.W H S' H' v rv → Q v H') (hk : k (.d (.tuple ds))) (h : DxAll B.K S xs ds) : ∀ p, H p = none → Q (.ref p) (upd H p (.tup xs)) := fun p np =>
  f (.d (.tuple ds)) _ _ _ hk (Stp.new s np) (Dx.tup (.of upd_same) (h.sm (Stp.new (T := B.T) s np).ss))
theorem fin_l {k : Rv → Prop} {Q : VK} {xs : List V} {ds : List PyData} (s : Sub S H) (f : ∀ rv v S' H', k rv → Stp B.T S H S' H' → RvN B.K B.W H S' H' v rv → Q v H') (hk : k (.o (.list ds))) (h : DxAll B.K S xs ds) : ∀ p, H p = none → Q (.ref p) (upd H p (.lst xs)) := fun p np =>
  f (.o (.list ds)) _ _ _ hk (Stp.newO s np) ⟨p, rfl, np, sub_none s np, xs, upd_same, h⟩
end
section
variable {X : Cx} {B : Bas}
/-! ### + - -/
theorem op_catL : OpR X (binaryOp .Add) (fun x y H Q => ∃ l b xs zs, x = .ref l ∧ y = .ref b ∧ SqL X.K H l xs ∧ SqL X.K H b zs ∧ xs.length + zs.length ≤ sizeLine ∧ ∀ p, H p = none → Q (.ref p) (upd H p (.lst (xs ++ zs)))) := by
  intro pins s σ H x y v u Q I rx ry h
  obtain ⟨l, b, xs, zs, rfl, rfl, hH, hB, hz, q⟩ := h
  cases rx
  cases ry
  obtain ⟨its, r, ⟨⟨cls, dd, data, sl⟩, n, ho, hc, hdn, hd⟩, _⟩ := I.list hH
  obtain ⟨its2, r2, ⟨⟨cls2, dd2, data2, sl2⟩, n2, ho2, hc2, hdn2, hd2⟩, _⟩ := I.list hB
  simp only at hc hd hc2 hd2
  subst hc hd hc2 hd2
  refine concat_meets ⟨_, ho, rfl⟩ ⟨_, ho2, rfl⟩ noFill_list_add seq_list_add PySem.F.slot_list_add PySem.F.entry_list_add (PySem.F.args_list_add_2 _ _) (list_addW l b its.toArray its2.toArray n n2 dd dd2 sl sl2 (by rw [List.size_toArray, List.size_toArray, ← r.length, ← r2.length]; exact hz)) ⟨ho, ho2, ?_⟩
  have ea : its.toArray ++ its2.toArray = (its ++ its2).toArray := by simp
  rw [ea]
  exact ⟨.ref _, _, I.lnew (t' := s.toks) (r.append r2) (by rw [List.length_append]; omega), rfl, q _ I.fresh⟩
def rAddD (K : PySem.W.Frag) : R2 := fun x y H Q => (∃ i j, x = .int i ∧ y = .int j ∧ Q (.int (i + j)) H) ∨ (∃ i j, x = .str i ∧ y = .str j ∧ i.length + j.length ≤ sizeLine ∧ Q (.str (i ++ j)) H) ∨
  (∃ l b xs zs, x = .ref l ∧ y = .ref b ∧ SqL K H l xs ∧ SqL K H b zs ∧ xs.length + zs.length ≤ sizeLine ∧ ∀ p, H p = none → Q (.ref p) (upd H p (.lst (xs ++ zs)))) ∨ rCatA K x y H Q
theorem op_addD : OpR X (binaryOp .Add) (rAddD X.K) := op_add.or (op_add_str.or (op_catL.or op_catA))
def gAdd : PyData → PyData → (Rv → Prop) → Prop
  | .int i, .int j, k => k (.d (.int (i + j)))
  | .str x, .str y, k => x.length + y.length ≤ sizeLine ∧ k (.d (.str (x ++ y)))
  | .list xs, .list ys, k => xs.length + ys.length ≤ sizeLine ∧ k (.o (.list (xs ++ ys)))
  | .tuple xs, .tuple ys, k => xs.length + ys.length ≤ sizeLine ∧ k (.d (.tuple (xs ++ ys)))
  | _, _, _ => False
theorem og_add : OpG B (rAddD B.K) gAdd := fun S H v1 v2 d1 d2 k Q s h1 h2 g f => by
  cases h1 with
  | int i =>
    cases h2 with
    | int j => exact .inl ⟨i, j, rfl, rfl, fin_d s f g (.int _)⟩
    | _ => exact g.elim
  | str x =>
    cases h2 with
    | str y => exact .inr (.inl ⟨x, y, rfl, rfl, g.1, fin_d s f g.2 (.str _)⟩)
    | _ => exact g.elim
  | @lst a xs ds h r =>
    cases h2 with
    | @lst b ys es h' r' => exact .inr (.inr (.inl ⟨a, b, xs, ys, rfl, rfl, sqL_sub s h, sqL_sub s h', by rw [r.len, r'.len]; exact g.1, fin_l s f g.2 (r.app r')⟩))
    | _ => exact g.elim
  | @tup a xs ds h r =>
    cases h2 with
    | @tup b ys es h' r' =>
      refine .inr (.inr (.inr ⟨a, b, xs, ys, rfl, rfl, sqT_sub s h, sqT_sub s h', by rw [r.len, r'.len]; exact g.1, fun e => ?_, fun _ e => ?_, fun _ _ => fin_t s f g.2 (r.app r')⟩))
      · subst e
        cases r
        exact fin_d s f g.2 (.tup h' r')
      · subst e
        cases r'
        have q := g.2
        rw [List.append_nil] at q
        exact fin_d s f q (.tup h r)
    | _ => exact g.elim
  | _ => exact g.elim
def gIntOp (c : Int → Int → Prop) (fi : Int → Int → PyData) : PyData → PyData → (Rv → Prop) → Prop
  | .int i, .int j, k => c i j ∧ k (.d (fi i j))
  | _, _, _ => False
theorem og_int {c : Int → Int → Prop} {fi : Int → Int → PyData} {fv : Int → Int → V} (hf : ∀ i j S, Dx B.K S (fv i j) (fi i j)) : OpG B (rI c fv) (gIntOp c fi) := fun S H v1 v2 d1 d2 k Q s h1 h2 g f => by
  cases h1 with
  | int i =>
    cases h2 with
    | int j => exact ⟨i, j, rfl, rfl, g.1, fin_d s f g.2 (hf i j S)⟩
    | _ => exact g.elim
  | _ => exact g.elim
theorem og_int0 {fi : Int → Int → PyData} {fv : Int → Int → V} (hf : ∀ i j S, Dx B.K S (fv i j) (fi i j)) : OpG B (rI0 fv) (gIntOp (fun _ _ => True) fi) := fun S H v1 v2 d1 d2 k Q s h1 h2 g f => by
  cases h1 with
  | int i =>
    cases h2 with
    | int j => exact ⟨i, j, rfl, rfl, fin_d s f g.2 (hf i j S)⟩
    | _ => exact g.elim
  | _ => exact g.elim
abbrev gMinus := gIntOp (fun _ _ => True) fun i j => .int (i - j)
abbrev gMul := gIntOp CMul fun i j => .int (i * j)
abbrev gMod := gIntOp (fun _ j => 0 < j) fun i j => .int (i % j)
abbrev gFdiv := gIntOp CDiv fun i j => .int (i / j)
abbrev gLt := gIntOp (fun _ _ => True) fun i j => .bool (decide (i < j))
abbrev gLe := gIntOp (fun _ _ => True) fun i j => .bool (decide (i ≤ j))
abbrev gGt := gIntOp (fun _ _ => True) fun i j => .bool (decide (j < i))
abbrev gGe := gIntOp (fun _ _ => True) fun i j => .bool (decide (j ≤ i))
theorem og_sub : OpG B (rI0 fun i j => .int (i - j)) gMinus := og_int0 fun _ _ _ => .int _
theorem og_mul : OpG B (rI CMul fun i j => .int (i * j)) gMul := og_int fun _ _ _ => .int _
theorem og_mod : OpG B (rI (fun _ j => 0 < j) fun i j => .int (i % j)) gMod := og_int fun _ _ _ => .int _
theorem og_fdiv : OpG B (rI CDiv fun i j => .int (i / j)) gFdiv := og_int fun _ _ _ => .int _
theorem og_lt : OpG B (rI0 fun i j => .bl (decide (i < j))) gLt := og_int0 fun _ _ _ => .bl _
theorem og_le : OpG B (rI0 fun i j => .bl (decide (i ≤ j))) gLe := og_int0 fun _ _ _ => .bl _
theorem og_gt : OpG B (rI0 fun i j => .bl (decide (j < i))) gGt := og_int0 fun _ _ _ => .bl _
theorem og_ge : OpG B (rI0 fun i j => .bl (decide (j ≤ i))) gGe := og_int0 fun _ _ _ => .bl _
/-! ### == != in -/
def gEq (d e : PyData) (k : Rv → Prop) : Prop := (dpD d ≤ 60 ∧ plD d = true ∧ plD e = true) ∧ k (.d (.bool (eqP d e)))
theorem og_eq : OpG B (rEqP B.K) gEq := fun S H v1 v2 d1 d2 k Q s h1 h2 g f => ⟨d1, d2, (da_sub s h1).da g.1.2.1, (da_sub s h2).da g.1.2.2, g.1.1, fin_d s f g.2 (.bl _)⟩
def gNe (d e : PyData) (k : Rv → Prop) : Prop := ((isDct d = false ∧ isDct e = false ∧ (nodct d = true ∨ nodct e = true) ∧ dpD d ≤ 60) ∧ plD d = true ∧ plD e = true) ∧ k (.d (.bool (!eqP d e)))
theorem og_ne : OpG B (rNeP B.K) gNe := fun S H v1 v2 d1 d2 k Q s h1 h2 g f => ⟨d1, d2, (da_sub s h1).da g.1.2.1, (da_sub s h2).da g.1.2.2, g.1.1, fin_d s f g.2 (.bl _)⟩
def keyOf : PyData → Option Key
  | .int i => some (.inl i)
  | .str z => some (.inr z)
  | _ => none
theorem keyOf_da {K : KW} {S : Hp} {v : V} {d : PyData} {k : Key} (h : Dx K S v d) (e : keyOf d = some k) : v = kV k ∧ d = keyD k := by
  cases h <;> cases e <;> exact ⟨rfl, rfl⟩
def rInAll (K : KW) (neg : Bool) : R2 := fun x y H Q => rInP K neg x y H Q ∨ (∃ (c : Nat) (z : Str), x = .str ⟨#[c]⟩ ∧ y = .str z ∧ Q (.bl (if neg then !decide (c ∈ z.cps.toList) else decide (c ∈ z.cps.toList))) H) ∨ (∃ a o, y = .ref a ∧ DGet H a x o ∧ Q (.bl (if neg then !o.isSome else o.isSome)) H) ∨ rInN K.K K.P K.w neg x y H Q
theorem op_InD (hu : X.A.units + 1 < cLine) : OpR X (compareOp .In) (fun x y H Q => ∃ a o, y = .ref a ∧ DGet H a x o ∧ Q (.bl (o.isSome)) H) := by
  intro pins s σ H x y v u Q I rx ry h
  obtain ⟨a, o, rfl, g, q⟩ := h
  obtain rfl : u = .ref a := ry
  exact d_in hu I g rx fun s3 I3 => ⟨.bl _, H, I3, rfl, q⟩
theorem op_NotInD (hu : X.A.units + 1 < cLine) : OpR X (compareOp .NotIn) (fun x y H Q => ∃ a o, y = .ref a ∧ DGet H a x o ∧ Q (.bl (!o.isSome)) H) := by
  intro pins s σ H x y v u Q I rx ry h
  obtain ⟨a, o, rfl, g, q⟩ := h
  obtain rfl : u = .ref a := ry
  exact d_notIn hu I g rx fun s3 I3 => ⟨.bl _, H, I3, rfl, q⟩
theorem op_inAll (hu : X.A.units + 65 < cLine) : OpR X (compareOp .In) (rInAll X.kw false) := (op_InP hu).or (op_in_sign.or ((op_InD (by omega)).or (op_InN hu)))
theorem op_notInAll (hu : X.A.units + 65 < cLine) : OpR X (compareOp .NotIn) (rInAll X.kw true) := (op_NotInP hu).or (op_notIn_sign.or ((op_NotInD (by omega)).or (op_NotInN hu)))
/-- the key's kind: a number or a text; a tuple -/
def dKey (d : PyData) (kvs : List (PyData × PyData)) (p : Prop) (q : NestedKey → Prop) : Prop := match keyOf d with
  | some _ => tkd kvs = false ∧ p
  | none => ∃ nk, (isTk d = true ∧ nkD d = some nk ∧ nk.depth ≤ 8 ∧ (kvs = [] ∨ tkd kvs = true)) ∧ q nk
theorem isTk_da {K : KW} {S : Hp} {v : V} {d : PyData} {nk : NestedKey} (h : Dx K S v d) (ht : isTk d = true) (e : nkD d = some nk) (hp : nk.depth ≤ 8) (pl : plD d = true) : ∃ a, KeyOf K.K S v nk a := by
  have := h.da pl
  cases h with
  | tup _ _ => exact ⟨_, rfl, ⟨_, this, e⟩, hp⟩
  | _ => cases ht
mutual
theorem nk_pl : ∀ {d : PyData} {nk : NestedKey}, nkD d = some nk → plD d = true
  | .none, _, _ => by simp [plD]
  | .bool _, _, _ => by simp [plD]
  | .int _, _, _ => by simp [plD]
  | .str _, _, _ => by simp [plD]
  | .tuple ds, nk, h => by
    simp only [nkD] at h
    cases e : nkDs ds with
    | none => rw [e] at h; cases h
    | some ks => simpa only [plD] using nks_pl e
  | .list ds, nk, h => by simp [nkD] at h
  | .dict ds, nk, h => by simp [nkD] at h
theorem nks_pl : ∀ {ds : List PyData} {ks : List NestedKey}, nkDs ds = some ks → plDs ds = true
  | [], _, _ => by simp [plDs]
  | d :: r, ks, h => by
    simp only [nkDs] at h
    cases e1 : nkD d with
    | none => rw [e1] at h; cases h
    | some k =>
      cases e2 : nkDs r with
      | none => rw [e1, e2] at h; cases h
      | some ks' => simp only [plDs, nk_pl e1, nks_pl e2, Bool.and_self]
end
/-- a dict, as what stands in the heap, for a tuple as key -/
theorem dx_nat {K : KW} {S H : Hp} {a : Addr} {kvs : List (PyData × PyData)} (s : Sub S H) (h : Dx K S (.ref a) (.dict kvs)) (hk : kvs = [] ∨ tkd kvs = true) : ∃ xs, NAt K.P K.w H a xs ∧ KeysAt K.K H xs ∧ DxN K S xs kvs := by
  cases h with
  | dct h n r =>
    cases r with
    | nil => exact ⟨[], .inr ⟨rfl, s _ _ h⟩, (fun x hx => by cases hx), .nil⟩
    | cons h1 r =>
      rename_i k _ _ _ _
      rcases hk with z | z
      · cases z
      · cases k <;> cases z
  | dcn h ne n r => exact ⟨_, .inl (s _ _ h), (DxN.sm (ex_sub s) r).keys, r⟩
theorem dx_dk {K : KW} {S : Hp} {a : Addr} {kvs : List (PyData × PyData)} (h : Dx K S (.ref a) (.dict kvs)) (hk : tkd kvs = false) : ∃ ks, S a = some (.dK ks) ∧ (ks.map (·.1)).Nodup ∧ DxKV K S ks kvs := by
  cases h with
  | dct h n r => exact ⟨_, h, n, r⟩
  | dcn h ne n r =>
    cases r with
    | nil => exact absurd rfl ne
    | cons h1 e _ _ _ =>
      have := nk_ref h1 e
      have hk : isTk _ = false := hk
      rw [this] at hk
      cases hk
def gIn (neg : Bool) (d e : PyData) (k : Rv → Prop) : Prop := match e with
  | .list es => (nodct d = true ∨ nodcts es = true) ∧ (dpDs es ≤ 60 ∧ plD d = true ∧ plDs es = true) ∧ k (.d (.bool (if neg then !es.any (fun z => eqP z d) else es.any fun z => eqP z d)))
  | .tuple es => (nodct d = true ∨ nodcts es = true) ∧ (dpDs es ≤ 60 ∧ plD d = true ∧ plDs es = true) ∧ k (.d (.bool (if neg then !es.any (fun z => eqP z d) else es.any fun z => eqP z d)))
  | .str z => ∃ c, d = .str ⟨#[c]⟩ ∧ k (.d (.bool (if neg then !decide (c ∈ z.cps.toList) else decide (c ∈ z.cps.toList))))
  | .dict kvs => dKey d kvs (k (.d (.bool (if neg then !(findD d kvs).isSome else (findD d kvs).isSome)))) fun nk => k (.d (.bool (if neg then !(findT nk kvs).isSome else (findT nk kvs).isSome)))
  | _ => False
theorem in_some {K : KW} {S : Hp} {xs : NEs} {kvs : List (PyData × PyData)} (r : DxN K S xs kvs) (nk : NestedKey) : (atN xs nk).isSome = (findT nk kvs).isSome := by
  cases e3 : atN xs nk with
  | none => rw [(r.find nk).2 e3]; rfl
  | some v =>
    obtain ⟨d, h3, _⟩ := (r.find nk).1 v e3
    rw [h3]; rfl
theorem og_in {neg : Bool} : OpG B (rInAll B.K neg) (gIn neg) := fun S H v1 v2 d1 d2 k Q s h1 h2 g f => by
  have dict : ∀ {a : Addr} {kvs : List (PyData × PyData)}, Dx B.K S (.ref a) (.dict kvs) → gIn neg d1 (.dict kvs) k → rInAll B.K neg v1 (.ref a) H Q := fun {a kvs} h2 g => by
    have g : dKey d1 kvs _ _ := g
    unfold dKey at g
    cases e : keyOf d1 with
    | none =>
      rw [e] at g
      obtain ⟨nk, ⟨t1, t2, t3, t4⟩, g⟩ := g
      obtain ⟨b, hb⟩ := isTk_da (da_sub s h1) t1 t2 t3 (nk_pl t2)
      obtain ⟨xs, g1, g2, g3⟩ := dx_nat s h2 t4
      refine .inr (.inr (.inr ⟨b, a, nk, xs, hb, rfl, g1, g2, ?_⟩))
      rw [in_some g3]
      exact fin_d s f g (.bl _)
    | some key =>
      rw [e] at g
      obtain ⟨rfl, rfl⟩ := keyOf_da h1 e
      obtain ⟨ks, h, n, r⟩ := dx_dk h2 g.1
      refine .inr (.inr (.inl ⟨a, valV ks key, rfl, .inl ⟨ks, key, (.inl (s _ _ h)), rfl, rfl⟩, ?_⟩))
      have e2 : (valV ks key).isSome = (findD (keyD key) kvs).isSome := by
        cases e3 : valV ks key with
        | none =>
          rw [(r.find key).2 e3]
          rfl
        | some v =>
          obtain ⟨d, h3, _⟩ := (r.find key).1 v e3
          rw [h3]
          rfl
      rw [e2]
      exact fin_d s f g.2 (.bl _)
  cases h2 with
  | @lst a xs ds h r => exact .inl ⟨d1, .list ds, ds, (da_sub s h1).da g.2.1.2.1, (da_sub s (.lst h r)).da (by simpa only [plD] using g.2.1.2.2), .inl rfl, g.1, g.2.1.1, fin_d s f g.2.2 (.bl _)⟩
  | @tup a xs ds h r => exact .inl ⟨d1, .tuple ds, ds, (da_sub s h1).da g.2.1.2.1, (da_sub s (.tup h r)).da (by simpa only [plD] using g.2.1.2.2), .inr rfl, g.1, g.2.1.1, fin_d s f g.2.2 (.bl _)⟩
  | str z =>
    obtain ⟨c, rfl, g⟩ := g
    cases h1
    exact .inr (.inl ⟨c, z, rfl, rfl, fin_d s f g (.bl _)⟩)
  | @dct a kvs ds h n r => exact dict (.dct h n r) g
  | @dcn a kvs ds h ne n r => exact dict (.dcn h ne n r) g
  | _ => exact g.elim
/-! ### items -/
theorem ix_dget (hu : X.A.units + 1 < cLine) : IxR X (fun x y H Q => ∃ a v, x = .ref a ∧ DGet H a y (some v) ∧ Q v H) := by
  intro value slice pins s σ H x y v u Q I rx ry h hs
  obtain ⟨a, r, rfl, g, q⟩ := h
  obtain rfl : v = Value.ref a := rx
  exact tail_any (dict_typeIs I g) PySem.F.slot_dict_getitem.lookup (d_getItem hu I g ry fun w' s3 I3 rw' => ⟨r, H, I3, rw', q⟩) hs
def rIxA (K : KW) : R2 := fun x y H Q => rIxL K x y H Q ∨ rIxT K x y H Q ∨ rIxS x y H Q ∨ (∃ a v, x = .ref a ∧ DGet H a y (some v) ∧ Q v H) ∨ rIxN K.K K.P K.w x y H Q
theorem ix_all (hu : X.A.units + 65 < cLine) : IxR X (rIxA X.kw) := ix_list.or (ix_tup.or (ix_str.or ((ix_dget (by omega)).or (ix_N hu))))
def gIx (d e : PyData) (k : Rv → Prop) : Prop := match d with
  | .list ds => match e with
    | .int i => match atI ds i with | some x => k (.d x) | none => False
    | _ => False
  | .tuple ds => match e with
    | .int i => match atI ds i with | some x => k (.d x) | none => False
    | _ => False
  | .str z => match e with
    | .int i => z.length ≤ sizeLine ∧ match atI z.cps.toList i with | some c => k (.d (.str ⟨#[c]⟩)) | none => False
    | _ => False
  | .dict kvs => dKey e kvs (match findD e kvs with | some x => k (.d x) | none => False) fun nk => match findT nk kvs with | some x => k (.d x) | none => False
  | _ => False
theorem og_ix : OpG B (rIxA B.K) gIx := fun S H v1 v2 d1 d2 k Q s h1 h2 g f => by
  have dict : ∀ {a : Addr} {kvs : List (PyData × PyData)}, Dx B.K S (.ref a) (.dict kvs) → gIx (.dict kvs) d2 k → rIxA B.K (.ref a) v2 H Q := fun {a kvs} h1 g => by
    have g : dKey d2 kvs _ _ := g
    unfold dKey at g
    cases e : keyOf d2 with
    | none =>
      rw [e] at g
      obtain ⟨nk, ⟨t1, t2, t3, t4⟩, g⟩ := g
      obtain ⟨b, hb⟩ := isTk_da (da_sub s h2) t1 t2 t3 (nk_pl t2)
      obtain ⟨xs, g1, g2, g3⟩ := dx_nat s h1 t4
      cases e3 : atN xs nk with
      | none => rw [(g3.find nk).2 e3] at g; exact g.elim
      | some v =>
        obtain ⟨d, q1, q2⟩ := (g3.find nk).1 v e3
        rw [q1] at g
        exact .inr (.inr (.inr (.inr ⟨b, a, nk, xs, v, rfl, hb, g1, g2, e3, fin_d s f g q2⟩)))
    | some key =>
      rw [e] at g
      obtain ⟨rfl, rfl⟩ := keyOf_da h2 e
      obtain ⟨ks, h, n, r⟩ := dx_dk h1 g.1
      have g := g.2
      cases e3 : valV ks key with
      | none => rw [(r.find key).2 e3] at g; exact g.elim
      | some v =>
        obtain ⟨d, h3, h4⟩ := (r.find key).1 v e3
        rw [h3] at g
        exact .inr (.inr (.inr (.inl ⟨a, v, rfl, .inl ⟨ks, key, (.inl (s _ _ h)), rfl, e3.symm⟩, fin_d s f g h4⟩)))
  cases h1 with
  | @lst a xs ds h r =>
    cases h2 with
    | int i =>
      have g : (match atI ds i with | some x => k (.d x) | none => False) := g
      cases e : atI ds i with
      | none => rw [e] at g; exact g.elim
      | some d =>
        rw [e] at g
        obtain ⟨x, h3, h4⟩ := atD r e
        exact .inl ⟨a, xs, i, x, rfl, rfl, sqL_sub s h, h3, fin_d s f g h4⟩
    | _ => exact g.elim
  | @tup a xs ds h r =>
    cases h2 with
    | int i =>
      have g : (match atI ds i with | some x => k (.d x) | none => False) := g
      cases e : atI ds i with
      | none => rw [e] at g; exact g.elim
      | some d =>
        rw [e] at g
        obtain ⟨x, h3, h4⟩ := atD r e
        exact .inr (.inl ⟨a, xs, i, x, rfl, rfl, sqT_sub s h, h3, fin_d s f g h4⟩)
    | _ => exact g.elim
  | str z =>
    cases h2 with
    | int i =>
      obtain ⟨g1, g⟩ := (show z.length ≤ sizeLine ∧ (match atI z.cps.toList i with | some c => k (.d (.str ⟨#[c]⟩)) | none => False) from g)
      cases e : atI z.cps.toList i with
      | none => rw [e] at g; exact g.elim
      | some c =>
        rw [e] at g
        exact .inr (.inr (.inl ⟨z, i, c, rfl, rfl, g1, e, fin_d s f g (.str _)⟩))
    | _ => exact g.elim
  | @dct a kvs ds h n r => exact dict (.dct h n r) g
  | @dcn a kvs ds h ne n r => exact dict (.dcn h ne n r) g
  | _ => exact g.elim
end
end Kf

set_option Elab.async false
set_option linter.all false
set_option maxRecDepth 100000
set_option maxHeartbeats 2000000
namespace Kf
open PySem PySem.Spec PyProof.Rows L2 LamX NdefX
/-! ## tests -/
section
variable {X : Cx} {B : Bas} {a b c e : Expr} {rest : List Expr} {es : List Expr} {ta tb t : TV} {ts : TVs} {tA tB' : TTd} {pos : Pos}
def truD : PyData → Bool
  | .none => false
  | .bool b => b
  | .int i => i != 0
  | .str z => (z.length : Int) != 0
  | .list xs => !xs.isEmpty
  | .tuple xs => !xs.isEmpty
  | .dict xs => !xs.isEmpty
def okTru : PyData → Prop
  | .str z => z.length ≤ sizeLine
  | .dict _ => False
  | _ => True
theorem DxAll.emp {K : KW} {S : Hp} {xs : List V} {ds : List PyData} (h : DxAll K S xs ds) : xs.isEmpty = ds.isEmpty := by cases h <;> rfl
theorem truV_of {K : KW} {H : Hp} {v : V} {d : PyData} (h : Dx K H v d) (o : okTru d) : TruV K v H (truD d) := by
  cases h with
  | non => exact rfl
  | bl b => exact rfl
  | int i => exact rfl
  | str z => exact ⟨o, rfl⟩
  | lst h r => exact .inl ⟨_, h, by rw [r.emp]; rfl⟩
  | tup h r => exact .inr (.inl ⟨_, h, by rw [r.emp]; rfl⟩)
  | dct h n r => exact o.elim
  | dcn h ne n r => exact o.elim
/-- the truth of an expression's value -/
def dTru (t : TV) : TTd := fun E R => t E fun r E1 => r.toD (fun d E1 => okTru d ∧ R (truD d) E1) E1
theorem et_tru (ha : PE X a (liftE B t)) (hK : X.K = B.K) (he : ∀ whole, isTrue a X.env whole = (do let v ← whole; standAt a.pos; holding [v] (truthy v)) := by intro _; rfl) : PT X a (liftT B (dTru t)) := PT_mono (pt_truth (ev_D ha) he) fun σ H Q hq => by
  obtain ⟨own, E, R, rep, ht, k⟩ := hq
  refine ⟨own, E, _, rep, ht, fun d E1 own1 v H1 q1 ev1 da rep1 => ⟨truD d, ?_, k _ E1 own1 H1 q1.2 ev1 rep1⟩⟩
  rw [hK]
  exact truV_of (da_sub hid_sub da) q1.1
/-- .. of a name's own list -/
def dTruO (i : Nat) : TTd := fun E R => match E[i]? with
  | some (some (.o x)) => (match x with
    | .list xs => R (!xs.isEmpty) E
    | .dict xs => tkd xs = false ∧ R (!xs.isEmpty) E
    | _ => False)
  | some (some (.d d)) => okTru d ∧ R (truD d) E
  | _ => False
theorem et_truO {i : Nat} {x : Str} (h : PE X (.Name x pos) (tVar i)) (hK : X.K = B.K) (he : ∀ whole, isTrue (.Name x pos) X.env whole = (do let v ← whole; standAt (Expr.Name x pos).pos; holding [v] (truthy v)) := by intro _; rfl) : PT X (.Name x pos) (liftT B (dTruO i)) := PT_mono (pt_truth h he) fun σ H Q hq => by
  obtain ⟨own, E, R, rep, ht, k⟩ := hq
  unfold dTruO at ht
  cases e : E[i]? with
  | none => rw [e] at ht; exact ht.elim
  | some w =>
    cases w with
    | none => rw [e] at ht; exact ht.elim
    | some r =>
      rw [e] at ht
      obtain ⟨v, hv, ra⟩ := rep.sl i r e
      refine ⟨v, hv, ?_⟩
      rw [hK]
      cases r with
      | d d => exact ⟨truD d, truV_of (da_sub hid_sub ra) ht.1, k _ E own H ht.2 (Evo.refl _ _) rep⟩
      | o x =>
        obtain ⟨p, rfl, _, q⟩ := ra
        cases x with
        | list xs =>
          obtain ⟨ys, h1, h2⟩ := q
          exact ⟨_, .inl ⟨ys, .of h1, rfl⟩, k _ E own H (by rw [h2.emp]; exact ht) (Evo.refl _ _) rep⟩
        | dict xs =>
          have q2 : Dx B.K H (.ref p) (.dict xs) := OwnAt.da q hid_ex
          obtain ⟨ys, h1, hn, h2⟩ := dx_dk q2 ht.1
          exact ⟨_, .inr (.inr ⟨ys, h1, rfl⟩), k _ E own H (by have := ht.2; cases h2 <;> exact this) (Evo.refl _ _) rep⟩
        | _ => exact ht.elim
      | a φ => exact ht.elim
      | ob C fs => exact ht.elim
      | m c => exact ht.elim
/-- a comparison as a test -/
def dTb (t : TV) : TTd := fun E R => t E fun r E1 => match r with
  | .d (.bool b) => R b E1
  | _ => False
theorem testE {te : TE} {σ : L2.St} {H : Hp} {Q : Bool → Hp → Prop} (h : ∀ Q', liftE B t σ H Q' → te σ H Q') (hq : liftT B (dTb t) σ H Q) : tTest te σ H Q := by
  obtain ⟨own, E, R, rep, ht, k⟩ := hq
  refine h _ ⟨own, E, _, rep, ht, fun r E1 own1 v H1 q1 ev1 ra rep1 => ?_⟩
  cases r with
  | d d =>
    cases d with
    | bool b =>
      cases ra
      exact ⟨b, rfl, k b E1 own1 H1 q1 ev1 rep1⟩
    | _ => exact q1.elim
  | o x => exact q1.elim
  | a φ => exact q1.elim
  | ob C fs => exact q1.elim
  | m c => exact q1.elim
theorem et_cmp {op : CmpOp} {r : R2} {g : PyData → PyData → (Rv → Prop) → Prop} (ho : OpR X (compareOp op) r) (hg : OpG B r g) (ha : PE X a (liftE B ta)) (hb : PE X b (liftE B tb)) (hm : behindInMarks op b = false) : PT X (.Compare a [op] [b] pos) (liftT B (dTb (dOp g ta tb))) :=
  PT_mono (pt_cmpR ho (ev_D ha) (ev_D hb) hm) fun _ _ _ => testE fun _ => opE hg
/-- a < b < c -/
def dChain (g g' : PyData → PyData → (Rv → Prop) → Prop) (ta tb tc : TV) : TTd := fun E R => ta E fun r1 E1 => r1.toD (fun d1 E1 => tb E1 fun r2 E2 => r2.toD (fun d2 E2 => g d1 d2 fun r => match r with
  | .d (.bool b) => if b = true then tc E2 fun r3 E3 => r3.toD (fun d3 E3 => g' d2 d3 fun r => match r with
    | .d (.bool b) => R b E3
    | _ => False) E3 else R false E2
  | _ => False) E2) E1
theorem et_chain {op op' : CmpOp} {r r' : R2} {g g' : PyData → PyData → (Rv → Prop) → Prop} {tc : TV} (ho : OpR X (compareOp op) r) (hg : OpG B r g) (ho' : OpR X (compareOp op') r') (hg' : OpG B r' g') (ha : PE X a (liftE B ta)) (hb : PE X b (liftE B tb)) (hc : PE X c (liftE B tc))
    (hm : lastMarks [op, op'] [b, c] = false := by rfl) : PT X (.Compare a [op, op'] [b, c] pos) (liftT B (dChain g g' ta tb tc)) :=
  PT_mono (pt_chain ho ho' (ev_D ha) (ev_D hb) (ev_D hc) (hm := hm)) fun σ H Q hq => by
    obtain ⟨own, E, R, rep, ht, k⟩ := hq
    refine ⟨own, E, _, rep, ht, fun d1 E1 own1 v1 H1 q1 ev1 da1 rep1 => ⟨own1, E1, _, rep1, q1, fun d2 E2 own2 v2 H2 q2 ev2 da2 rep2 => ?_⟩⟩
    refine hg (hid own2 H2) H2 v1 v2 d1 d2 _ _ hid_sub (Dx.sm ev2.ex da1) da2 q2 fun rv v S' H' hk st rn => ?_
    cases rv with
    | d d =>
      cases d with
      | bool b0 =>
        cases (show Dx _ _ _ _ from rn)
        have ev3 := Evo.step (own := own2) st.sm.kp
        have rep3 := rep2.step st.sm
        refine ⟨b0, rfl, ?_⟩
        cases b0 with
        | false => exact iteF ⟨false, rfl, k false E2 own2 H' hk ((ev1.trans ev2).trans ev3) rep3⟩
        | true =>
          refine iteT ⟨own2, E2, _, rep3, hk, fun d3 E3 own4 v3 H4 q3 ev4 da3 rep4 => ?_⟩
          refine hg' (hid own4 H4) H4 v2 v3 d2 d3 _ _ hid_sub (Dx.sm (ev3.trans ev4).ex da2) da3 q3 fun rv v S5 H5 hk5 st5 rn5 => ?_
          cases rv with
          | d d =>
            cases d with
            | bool b5 =>
              cases (show Dx _ _ _ _ from rn5)
              exact ⟨b5, rfl, k b5 E3 own4 H5 hk5 (((ev1.trans ev2).trans ev3).trans (Evo.trans ev4 (.step st5.sm.kp))) (rep4.step st5.sm)⟩
            | _ => exact hk5.elim
          | o x => exact hk5.elim
          | a φ => exact hk5.elim
          | ob C fs => exact hk5.elim
          | m c => exact hk5.elim
      | _ => exact hk.elim
    | o x => exact hk.elim
    | a φ => exact hk.elim
    | ob C fs => exact hk.elim
    | m c => exact hk.elim
/-! ### and, or, not -/
def dAnd (t u : TTd) : TTd := fun E R => t E fun b E1 => if b = true then u E1 R else R false E1
def dOr (t u : TTd) : TTd := fun E R => t E fun b E1 => if b = true then R true E1 else u E1 R
def dNot (t : TTd) : TTd := fun E R => t E fun b E1 => R (!b) E1
theorem ew_and1 (ha : PT X a (liftT B tA)) : PW X (.BoolOp .And [a] pos) (liftT B tA) := pw_and1 ha
theorem ew_or1 (ha : PT X a (liftT B tA)) : PW X (.BoolOp .Or [a] pos) (liftT B tA) := pw_or1 ha
theorem ew_and (ha : PT X a (liftT B tA)) (hb : PW X (.BoolOp .And (b :: rest) pos) (liftT B tB')) : PW X (.BoolOp .And (a :: b :: rest) pos) (liftT B (dAnd tA tB')) := PW_mono (pw_and ha hb) fun σ H Q hq => by
  obtain ⟨own, E, R, rep, ht, k⟩ := hq
  refine ⟨own, E, _, rep, ht, fun b0 E1 own1 H1 q1 ev1 rep1 => ?_⟩
  cases b0 with
  | true => exact iteT ⟨own1, E1, R, rep1, q1, fun b2 E2 own2 H2 q2 ev2 rep2 => k b2 E2 own2 H2 q2 (ev1.trans ev2) rep2⟩
  | false => exact iteF (k false E1 own1 H1 q1 ev1 rep1)
theorem ew_or (ha : PT X a (liftT B tA)) (hb : PW X (.BoolOp .Or (b :: rest) pos) (liftT B tB')) : PW X (.BoolOp .Or (a :: b :: rest) pos) (liftT B (dOr tA tB')) := PW_mono (pw_or ha hb) fun σ H Q hq => by
  obtain ⟨own, E, R, rep, ht, k⟩ := hq
  refine ⟨own, E, _, rep, ht, fun b0 E1 own1 H1 q1 ev1 rep1 => ?_⟩
  cases b0 with
  | true => exact iteT (k true E1 own1 H1 q1 ev1 rep1)
  | false => exact iteF ⟨own1, E1, R, rep1, q1, fun b2 E2 own2 H2 q2 ev2 rep2 => k b2 E2 own2 H2 q2 (ev1.trans ev2) rep2⟩
theorem et_not (ha : PT X a (liftT B tA)) : PT X (.UnaryOp .Not a pos) (liftT B (dNot tA)) := PT_mono (pt_not ha) fun σ H Q hq => by
  obtain ⟨own, E, R, rep, ht, k⟩ := hq
  exact ⟨own, E, _, rep, ht, fun b0 E1 own1 H1 q1 ev1 rep1 => k _ E1 own1 H1 q1 ev1 rep1⟩
/-! .. as values (bools) -/
def dAndV (ta tb : TV) : TV := fun E R => ta E fun r E1 => match r with
  | .d (.bool b) => if b = true then tb E1 R else R (.d (.bool false)) E1
  | _ => False
def dOrV (ta tb : TV) : TV := fun E R => ta E fun r E1 => match r with
  | .d (.bool b) => if b = true then R (.d (.bool true)) E1 else tb E1 R
  | _ => False
def dNotV (ta : TV) : TV := fun E R => ta E fun r E1 => match r with
  | .d (.bool b) => R (.d (.bool (!b))) E1
  | _ => False
theorem ev_one {op : BoolOp} (h : PE X a (liftE B t)) : PE X (.BoolOp op [a] pos) (liftE B t) := pe_one h
theorem ev_and (ha : PE X a (liftE B ta)) (hb : PE X (.BoolOp .And (b :: rest) pos) (liftE B tb)) : PE X (.BoolOp .And (a :: b :: rest) pos) (liftE B (dAndV ta tb)) := PE_mono (pe_and ha hb) fun σ H Q hq => by
  obtain ⟨own, E, R, rep, ht, k⟩ := hq
  refine ⟨own, E, _, rep, ht, fun r E1 own1 v H1 q1 ev1 ra rep1 => ?_⟩
  cases r with
  | d d =>
    cases d with
    | bool b0 =>
      cases ra
      refine ⟨b0, rfl, ?_⟩
      cases b0 with
      | true => exact iteT ⟨own1, E1, R, rep1, q1, fun r E2 own2 v H2 q2 ev2 ra2 rep2 => k r E2 own2 v H2 q2 (ev1.trans ev2) ra2 rep2⟩
      | false => exact iteF (k (.d (.bool false)) E1 own1 _ H1 q1 ev1 (.bl false) rep1)
    | _ => exact q1.elim
  | o x => exact q1.elim
  | a φ => exact q1.elim
  | ob C fs => exact q1.elim
  | m c => exact q1.elim
theorem ev_or (ha : PE X a (liftE B ta)) (hb : PE X (.BoolOp .Or (b :: rest) pos) (liftE B tb)) : PE X (.BoolOp .Or (a :: b :: rest) pos) (liftE B (dOrV ta tb)) := PE_mono (pe_or ha hb) fun σ H Q hq => by
  obtain ⟨own, E, R, rep, ht, k⟩ := hq
  refine ⟨own, E, _, rep, ht, fun r E1 own1 v H1 q1 ev1 ra rep1 => ?_⟩
  cases r with
  | d d =>
    cases d with
    | bool b0 =>
      cases ra
      refine ⟨b0, rfl, ?_⟩
      cases b0 with
      | false => exact iteF ⟨own1, E1, R, rep1, q1, fun r E2 own2 v H2 q2 ev2 ra2 rep2 => k r E2 own2 v H2 q2 (ev1.trans ev2) ra2 rep2⟩
      | true => exact iteT (k (.d (.bool true)) E1 own1 _ H1 q1 ev1 (.bl true) rep1)
    | _ => exact q1.elim
  | o x => exact q1.elim
  | a φ => exact q1.elim
  | ob C fs => exact q1.elim
  | m c => exact q1.elim
theorem ev_not (ha : PE X a (liftE B ta)) : PE X (.UnaryOp .Not a pos) (liftE B (dNotV ta)) := PE_mono (pe_not ha) fun σ H Q hq => by
  obtain ⟨own, E, R, rep, ht, k⟩ := hq
  refine ⟨own, E, _, rep, ht, fun r E1 own1 v H1 q1 ev1 ra rep1 => ?_⟩
  cases r with
  | d d =>
    cases d with
    | bool b0 =>
      cases ra
      exact ⟨b0, rfl, k (.d (.bool (!b0))) E1 own1 _ H1 q1 ev1 (.bl _) rep1⟩
    | _ => exact q1.elim
  | o x => exact q1.elim
  | a φ => exact q1.elim
  | ob C fs => exact q1.elim
  | m c => exact q1.elim
def dIf (c : TTd) (ta tb : TV) : TV := fun E R => c E fun b E1 => if b = true then ta E1 R else tb E1 R
theorem ev_if (hc : PT X c (liftT B tA)) (ha : PE X a (liftE B ta)) (hb : PE X b (liftE B tb)) : PE X (.IfExp c a b pos) (liftE B (dIf tA ta tb)) := PE_mono (pe_ifExp hc ha hb) fun σ H Q hq => by
  obtain ⟨own, E, R, rep, ht, k⟩ := hq
  refine ⟨own, E, _, rep, ht, fun b0 E1 own1 H1 q1 ev1 rep1 => ?_⟩
  cases b0 with
  | true => exact iteT ⟨own1, E1, R, rep1, q1, fun r E2 own2 v H2 q2 ev2 ra2 rep2 => k r E2 own2 v H2 q2 (ev1.trans ev2) ra2 rep2⟩
  | false => exact iteF ⟨own1, E1, R, rep1, q1, fun r E2 own2 v H2 q2 ev2 ra2 rep2 => k r E2 own2 v H2 q2 (ev1.trans ev2) ra2 rep2⟩
end
/-! ## statements -/
section
variable {X : Cx} {B : Bas} {c e : Expr} {st : Stmt} {rest body orelse : List Stmt} {t u : TSD} {te : TV} {tc : TTd} {pos : Pos}
def sNext : TSD := fun D E => D.nx E
def sSeq (t u : TSD) : TSD := fun D E => t { D with nx := u D } E
def sRet (te : TV) : TSD := fun D E => te E D.rt
def sRetN : TSD := fun D E => D.rt (.d .none) E
def sIf (c : TTd) (t u : TSD) : TSD := fun D E => c E fun b E1 => if b = true then t D E1 else u D E1
def sSet (i : Nat) (te : TV) : TSD := fun D E => te E fun r E1 => i < E1.length ∧ D.nx (E1.set i (some r))
def sDrop (te : TV) : TSD := fun D E => te E fun _ E1 => D.nx E1
theorem es_nil : PSs X [] (liftS B sNext) := PSs_mono pss_nil fun D σ H hq => by
  obtain ⟨own, E, De, rep, ht, k, _⟩ := hq
  exact k own E σ H ht (Evo.refl _ _) rep
theorem es_cons (h1 : PS X st (liftS B t)) (h2 : PSs X rest (liftS B u)) : PSs X (st :: rest) (liftS B (sSeq t u)) := PSs_mono (pss_cons h1 h2) fun D σ H hq => by
  obtain ⟨own, E, De, rep, ht, k1, k2, k3, k4, k5⟩ := hq
  exact ⟨own, E, _, rep, ht, fun own' E' σ' H' q ev rep' => ⟨own', E', De, rep', q, fun o2 E2 s2 H2 q2 ev2 rep2 => k1 o2 E2 s2 H2 q2 (ev.trans ev2) rep2, k2, fun o2 E2 s2 H2 q2 ev2 rep2 => k3 o2 E2 s2 H2 q2 (ev.trans ev2) rep2, fun o2 E2 s2 H2 q2 ev2 rep2 => k4 o2 E2 s2 H2 q2 (ev.trans ev2) rep2, fun C fs o2 E2 s2 d H2 q2 ev2 x rep2 => k5 C fs o2 E2 s2 d H2 q2 (ev.trans ev2) x rep2⟩, k2, k3, k4, k5⟩
theorem es_one (h1 : PS X st (liftS B t)) : PSs X [st] (liftS B t) := pss_one h1
theorem es_ret (he : PE X e (liftE B te)) : PS X (.Return (some e) pos) (liftS B (sRet te)) := PS_mono (ps_ret he) fun D σ H hq => by
  obtain ⟨own, E, De, rep, ht, k1, k2, k3, k4⟩ := hq
  exact ⟨own, E, _, rep, ht, fun r E' own' v H' q ev ra rep' => k2 r own' E' σ v H' q ra rep'⟩
theorem es_retN : PS X (.Return none pos) (liftS B sRetN) := PS_mono ps_retN fun D σ H hq => by
  obtain ⟨own, E, De, rep, ht, k1, k2, k3, k4⟩ := hq
  exact k2 (.d .none) own E σ .non H ht .non rep
theorem es_if {a b : List Stmt} (hc : PT X c (liftT B tc)) (ha : PSs X a (liftS B t)) (hb : PSs X b (liftS B u)) : PS X (.If c a b pos) (liftS B (sIf tc t u)) := PS_mono (ps_if hc ha hb) fun D σ H hq => by
  obtain ⟨own, E, De, rep, ht, k1, k2, k3, k4, k5⟩ := hq
  refine ⟨own, E, _, rep, ht, fun b0 E1 own1 H1 q1 ev1 rep1 => ?_⟩
  cases b0 with
  | true => exact iteT ⟨own1, E1, De, rep1, q1, fun o2 E2 s2 H2 q2 ev2 rep2 => k1 o2 E2 s2 H2 q2 (ev1.trans ev2) rep2, k2, fun o2 E2 s2 H2 q2 ev2 rep2 => k3 o2 E2 s2 H2 q2 (ev1.trans ev2) rep2, fun o2 E2 s2 H2 q2 ev2 rep2 => k4 o2 E2 s2 H2 q2 (ev1.trans ev2) rep2, fun C fs o2 E2 s2 d H2 q2 ev2 x rep2 => k5 C fs o2 E2 s2 d H2 q2 (ev1.trans ev2) x rep2⟩
  | false => exact iteF ⟨own1, E1, De, rep1, q1, fun o2 E2 s2 H2 q2 ev2 rep2 => k1 o2 E2 s2 H2 q2 (ev1.trans ev2) rep2, k2, fun o2 E2 s2 H2 q2 ev2 rep2 => k3 o2 E2 s2 H2 q2 (ev1.trans ev2) rep2, fun o2 E2 s2 H2 q2 ev2 rep2 => k4 o2 E2 s2 H2 q2 (ev1.trans ev2) rep2, fun C fs o2 E2 s2 d H2 q2 ev2 x rep2 => k5 C fs o2 E2 s2 d H2 q2 (ev1.trans ev2) x rep2⟩
/-- from a rule for x = e -/
theorem setE {i : Nat} {D : Ends} {σ : L2.St} {H : Hp} (hio : ∀ a, (i, a) ∉ B.gv) (hq : liftS B (sSet i te) D σ H) : tAsg (liftE B te) (gName i) D σ H := by
  obtain ⟨own, E, De, rep, ht, k1, k2, k3, k4⟩ := hq
  refine ⟨own, E, _, rep, ht, fun r E1 own1 v H1 q1 ev1 ra rep1 => ?_⟩
  obtain ⟨own2, rep2, ev2⟩ := rep1.put ra q1.1 hio
  exact k1 own2 _ _ H1 q1.2 (ev1.trans ev2) rep2
theorem es_set {i : Nat} {x : Str} {pos' : Pos} (hio : ∀ a, (i, a) ∉ B.gv) (h : PS X (.Assign [.Name x pos'] e pos) (tAsg (liftE B te) (gName i))) : PS X (.Assign [.Name x pos'] e pos) (liftS B (sSet i te)) := PS_mono h fun D σ H hq => setE hio hq
theorem es_expr (he : PE X e (liftE B te)) (hs : swapsWith e none pos.line X.env = pure false := by rfl) : PS X (.Expr e pos) (liftS B (sDrop te)) := PS_mono (ps_expr he hs) fun D σ H hq => by
  obtain ⟨own, E, De, rep, ht, k1, k2, k3, k4⟩ := hq
  exact ⟨own, E, _, rep, ht, fun r E' own' v H' q ev ra rep' => k1 own' E' σ H' q ev rep'⟩
theorem es_doc {x : Str} {j : Nat} {pos' : Pos} : PS X (.Expr (.Constant (.str x) j pos) pos') (liftS B sNext) := PS_mono ps_doc fun D σ H hq => by
  obtain ⟨own, E, De, rep, ht, k, _⟩ := hq
  exact k own E σ H ht (Evo.refl _ _) rep
theorem es_pass : PS X (.Pass pos) (liftS B sNext) := PS_mono ps_pass fun D σ H hq => by
  obtain ⟨own, E, De, rep, ht, k, _⟩ := hq
  exact k own E σ H ht (Evo.refl _ _) rep
end
end Kf

set_option Elab.async false
set_option linter.all false
set_option maxRecDepth 100000
set_option maxHeartbeats 2000000
namespace Kf
open PySem PySem.Spec PyProof.Rows L2
/-! ### calls by a bundle, constants of the module -/
structure Cal (P : Program) (w : World) (K : PySem.W.Frag) (mg : Str → Option Value) (base : Heap) (k : Nat) (x : Str) (ps : List Str) (sp : Sp) : Prop where
  ex : ∃ f fd, mg x = some (.ref f) ∧ PySem.W.keepIn K (.ref f) = true ∧ Binds K fd ps [] ∧ FnOk P w K mg base CX0 k f fd ps sp
section
variable {X : Cx} {j k : Nat} {x : Str} {ps : List Str} {sp : Sp} {p pos : Pos} {e : Expr} {es : List Expr} {t : TA}
theorem pe_cal (C : Cal X.prog X.w X.K X.mg X.base k x ps sp) (hk : k ≤ j) (hr : Room j X.A) (hg : Gl X x) (ha : PA X (e :: es) t) (hdb : (x == ("__debug__" : Str)) = false := by decide)
    (he : starEach (e :: es) X.env = (false, eval e X.env) :: starEach es X.env := by rfl) (hpl : (backTo pos (starEach es X.env)).any (·.1) = false := by rfl) : PE X (.Call (.Name x p) (e :: es) [] pos) (tCall sp [] E0 t) := by
  obtain ⟨f, fd, m, kp, b, F⟩ := C.ex
  exact pe_call F (hr.mono hk) hg m kp b .nil pass0 ha hdb he hpl
def GC (mg : Str → Option Value) (x : Str) (v : V) : Prop := ∃ u, mg x = some u ∧ RelV v u
theorem pe_gc {v : V} (hg : Gl X x) (h : GC X.mg x v) (hd : (x == ("__debug__" : Str)) = false := by decide) : PE X (.Name x pos) (tC v) := by
  obtain ⟨u, m, r⟩ := h
  exact pe_glob hg m r hd
end
/-! ### lists and tuples alike -/
def Sq (K : PySem.W.Frag) (H : Hp) (a : Addr) (xs : List V) : Prop := SqL K H a xs ∨ SqT K H a xs
def Sqb (b : Bool) (K : PySem.W.Frag) (H : Hp) (a : Addr) (xs : List V) : Prop := if b = true then SqL K H a xs else SqT K H a xs
def Itb (b : Bool) (K : PySem.W.Frag) (a : Addr) : It := if b = true then Itl K a else Itt K a
theorem Sq.b {K : PySem.W.Frag} {H : Hp} {a : Addr} {xs : List V} (h : Sq K H a xs) : ∃ b, Sqb b K H a xs := by
  rcases h with h | h
  · exact ⟨true, h⟩
  · exact ⟨false, h⟩
theorem Sqb.s {b : Bool} {K : PySem.W.Frag} {H : Hp} {a : Addr} {xs : List V} (h : Sqb b K H a xs) : Sq K H a xs := by
  cases b with
  | true => exact .inl h
  | false => exact .inr h
theorem walk_sq {b : Bool} {K : PySem.W.Frag} {a : Addr} {xs : List V} : Walk (Itb b K a) xs.length (fun H => Sqb b K H a xs) (YAt xs) := by
  cases b with
  | true => exact walk_list
  | false => exact walk_tup
theorem Same.sqt {K : PySem.W.Frag} {H H' : Hp} {a : Addr} {xs : List V} (e : Same H H') (h : SqT K H a xs) : SqT K H' a xs := by
  rcases h with (h | ⟨o, h⟩) | h
  · exact .inl (.inl (e _ _ h))
  · exact .inl (.inr ⟨o, e _ _ h⟩)
  · exact .inr h
theorem Same.sq {K : PySem.W.Frag} {H H' : Hp} {a : Addr} {xs : List V} (e : Same H H') (h : Sq K H a xs) : Sq K H' a xs := by
  rcases h with h | h
  · exact .inl (e.seq h)
  · exact .inr (Same.sqt e h)
theorem Same.sqb {b : Bool} {K : PySem.W.Frag} {H H' : Hp} {a : Addr} {xs : List V} (e : Same H H') (h : Sqb b K H a xs) : Sqb b K H' a xs := by
  cases b with
  | true => exact e.seq h
  | false => exact Same.sqt e h
theorem Same.new {H : Hp} {p : Addr} {o : HO} (h : H p = none) : Same H (upd H p o) := fun b u e => by
  rw [upd_ne (ne_of_none e h)]
  exact e
/-- a write at a place that is new -/
theorem Same.at {H H' : Hp} {p : Addr} {o : HO} (s : Same H H') (h : H p = none) : Same H (upd H' p o) := fun b u e => by
  rw [upd_ne (ne_of_none e h)]
  exact s b u e
section
variable {X : Cx} {tg : Expr}
def iSq (K : PySem.W.Frag) (tl : TE) : TI := fun σ H R => tl σ H fun x H1 => ∃ a b, x = .ref a ∧ (∃ xs, Sqb b K H1 a xs) ∧ R (Itb b K a) H1
theorem pi_sq {l : Expr} {tl : TE} (hl : PE X l tl) : PI X tg l (iSq X.K tl) := by
  refine ⟨fun pins s σ H R I h => ?_⟩
  refine thn (hl.run pins s σ H _ I h) fun v s1 ⟨x, H1, I1, r1, q1⟩ => ?_
  obtain ⟨a, b, e, ⟨xs, hq⟩, q⟩ := q1
  subst e
  cases r1
  cases b with
  | true =>
    have hq : SqL X.K H1 a xs := hq
    obtain ⟨its, rv, p, hz⟩ := I1.list hq
    refine wpAny_pyIter_list p.isList ?_
    refine ⟨s1.heap.objs.size, [s1.heap.objs.size], _, _, H1, rfl, I1.kept (t' := s1.toks) fun b o e => Heap.get?_push_of_some _ e, turn_list a _, ⟨_, Heap.get?_push_size _ rfl, rfl, rfl⟩, fun b hb => ?_, q⟩
    have e : b = s1.heap.objs.size := by simpa using hb
    subst e
    exact I1.fpOk (Nat.le_refl _) (I1.hok.fresh (Nat.le_refl _))
  | false =>
    have hq : SqT X.K H1 a xs := hq
    obtain ⟨its, rv, p, hz⟩ := I1.tuple hq
    refine wpAny_pyIter_tuple (show s1.heap.IsTuple a its.toArray from p) ?_
    refine ⟨s1.heap.objs.size, [s1.heap.objs.size], _, _, H1, rfl, I1.kept (t' := s1.toks) fun b o e => Heap.get?_push_of_some _ e, turn_tuple a _, ⟨_, Heap.get?_push_size _ rfl, rfl, rfl⟩, fun b hb => ?_, q⟩
    have e : b = s1.heap.objs.size := by simpa using hb
    subst e
    exact I1.fpOk (Nat.le_refl _) (I1.hok.fresh (Nat.le_refl _))
def rIxQ (K : PySem.W.Frag) : R2 := fun x y H Q => ∃ p xs i v, x = .ref p ∧ y = .int i ∧ Sq K H p xs ∧ atI xs i = some v ∧ Q v H
theorem ix_sq : IxR X (rIxQ X.K) := by
  intro value slice pins s σ H x y v u Q I rx ry q hs
  obtain ⟨p, xs, i, v0, e1, e2, h, a, q⟩ := q
  rcases h with h | h
  · exact ix_list value slice pins s σ H x y v u Q I rx ry ⟨p, xs, i, v0, e1, e2, h, a, q⟩ hs
  · exact ix_tup value slice pins s σ H x y v u Q I rx ry ⟨p, xs, i, v0, e1, e2, h, a, q⟩ hs
def rSlQ (K : PySem.W.Frag) : V → Option Int → Option Int → Hp → VK → Prop := fun x lo hi H Q => rSlL K x lo hi H Q ∨ rSlA K x lo hi H Q
theorem sl_sq : SlR X (rSlQ X.K) := sl_list.or sl_tupA
theorem ix_sqK {K : PySem.W.Frag} (h : X.K = K) : IxR X (rIxQ K) := h ▸ ix_sq
theorem op_inK {K : PySem.W.Frag} (h : X.K = K) : OpR X (compareOp .In) (rIn K false) := h ▸ op_in_seq
theorem op_notInK {K : PySem.W.Frag} (h : X.K = K) : OpR X (compareOp .NotIn) (rIn K true) := h ▸ op_notIn_seq
theorem call_lenK {K : PySem.W.Frag} (h : X.K = K) : CallR X (.builtin "len") (fun xs H Q => ∃ p ys, xs = [.ref p] ∧ Sq K H p ys ∧ Q (.int ys.length) H) := h ▸ call_len_seq
theorem sl_sqK {K : PySem.W.Frag} (h : X.K = K) : SlR X (rSlQ K) := h ▸ sl_sq
end
/-- a slice of a list or a tuple: what it holds is readable behind it -/
theorem rSlQ.of {K : PySem.W.Frag} {a : Addr} {xs : List V} {lo hi : Option Int} {H : Hp} {Q : VK} (h : Sq K H a xs) (q : ∀ p H', Same H H' → Sq K H' p (cutV xs lo hi) → Q (.ref p) H') : rSlQ K (.ref a) lo hi H Q := by
  rcases h with h | h
  · exact .inl ⟨a, xs, rfl, h, fun p np => q p _ (Same.new np) (.inl (.of upd_same))⟩
  · refine .inr ⟨a, xs, rfl, h, fun hw => ?_, fun _ p np => q p _ (Same.new np) (.inr (.of upd_same))⟩
    refine q a H (Same.refl H) (.inr ?_)
    have e : cutV xs lo hi = xs := by
      unfold cutV
      rw [hw.1, hw.2]
      simp
    rw [e]
    exact h
/-! ### tests that leave the heap -/
theorem tOr_pure {t u : TT} {σ : L2.St} {H : Hp} {Q : Bool → Hp → Prop} (c1 c2 : Bool) (h1 : ∀ Q' : Bool → Hp → Prop, Q' c1 H → t σ H Q') (h2 : c1 = false → ∀ Q' : Bool → Hp → Prop, Q' c2 H → u σ H Q') (q : Q (c1 || c2) H) : tOr t u σ H Q := by
  refine h1 _ ?_
  cases c1 with
  | true => exact iteT q
  | false => exact iteF (h2 rfl _ q)
theorem tAnd_pure {t u : TT} {σ : L2.St} {H : Hp} {Q : Bool → Hp → Prop} (c1 c2 : Bool) (h1 : ∀ Q' : Bool → Hp → Prop, Q' c1 H → t σ H Q') (h2 : c1 = true → ∀ Q' : Bool → Hp → Prop, Q' c2 H → u σ H Q') (q : Q (c1 && c2) H) : tAnd t u σ H Q := by
  refine h1 _ ?_
  cases c1 with
  | true => exact iteT (h2 rfl _ q)
  | false => exact iteF q
theorem decStr (x y : Str) : decide (V.str x = V.str y) = decide (x = y) := by
  by_cases h : x = y
  · rw [decide_eq_true h, decide_eq_true (congrArg V.str h)]
  · rw [decide_eq_false h, decide_eq_false fun e => h (V.str.inj e)]
/-! ### flat texts -/
def sV (l : List Str) : List V := l.map V.str
theorem flat_sV : ∀ l : List Str, (sV l).all flatV = true
  | [] => rfl
  | x :: r => by
    show (flatV (.str x) && (sV r).all flatV) = true
    rw [flat_sV r]
    rfl
theorem inV_sV (x : Str) : ∀ l : List Str, inV (.str x) (sV l) = decide (x ∈ l)
  | [] => by simp [inV, sV]
  | y :: r => by
    have ih := inV_sV x r
    unfold inV sV at ih ⊢
    rw [List.map_cons, List.any_cons, ih]
    show (decide (y = x) || decide (x ∈ r)) = decide (x ∈ y :: r)
    by_cases h : y = x
    · subst h
      simp
    · simp [h, Ne.symm h]
/-! ### comprehensions that only make -/
structure LP (H1 : Hp) (D : Addr) (acc : Nat → List V) (i : Nat) (H : Hp) : Prop where
  sm : Same H1 H
  at_ : H D = some (.lst (acc i))
theorem LP.zero {H1 : Hp} {D : Addr} {acc : Nat → List V} (n : H1 D = none) (h : acc 0 = []) : LP H1 D acc 0 (upd H1 D (.lst [])) := ⟨Same.new n, by rw [upd_same, h]⟩
theorem LP.put {H1 H H4 : Hp} {D : Addr} {acc : Nat → List V} {i : Nat} {y : V} (p : LP H1 D acc i H) (n : H1 D = none) (sm : Same H H4) (ha : acc (i + 1) = acc i ++ [y]) (hl : (acc i).length < sizeLine) :
    ∃ a, H4 D = some (.lst a) ∧ a.length < sizeLine ∧ LP H1 D acc (i + 1) (upd H4 D (.lst (a ++ [y]))) :=
  ⟨acc i, sm _ _ p.at_, hl, Same.at (p.sm.trans sm) n, by rw [upd_same, ha]⟩
theorem LP.skip {H1 H H4 : Hp} {D : Addr} {acc : Nat → List V} {i : Nat} (p : LP H1 D acc i H) (sm : Same H H4) (ha : acc (i + 1) = acc i) : LP H1 D acc (i + 1) H4 := ⟨p.sm.trans sm, by rw [ha]; exact sm _ _ p.at_⟩
/-- names that are not the module's own -/
structure Nm (mg : Str → Option Value) : Prop where
  n_isinstance : mg "isinstance" = none
  n_str : mg "str" = none
  n_int : mg "int" = none
  n_bool : mg "bool" = none
  n_list : mg "list" = none
  n_tuple : mg "tuple" = none
  n_dict : mg "dict" = none
  n_len : mg "len" = none
  n_all : mg "all" = none
  n_any : mg "any" = none
  n_range : mg "range" = none
  n_abs : mg "abs" = none
  n_divmod : mg "divmod" = none
  n_min : mg "min" = none
  n_repr : mg "repr" = none
  n_sorted : mg "sorted" = none
  n_enumerate : mg "enumerate" = none
  n_zip : mg "zip" = none
  n_set : mg "set" = none
  n_max : mg "max" = none
  n_sum : mg "sum" = none
  n_reversed : mg "reversed" = none
structure Cn (mg : Str → Option Value) : Prop where
  c_LETTERS : GC mg "LETTERS" (.str "abcdefghijklmnopqrstuvwxyz")
  c_MOST_LETTERS : GC mg "MOST_LETTERS" (.int 6)
  c_MOST_PARTS : GC mg "MOST_PARTS" (.int 8)
  c_MOST_GATES : GC mg "MOST_GATES" (.int 8)
  c_MOST_CAUSES : GC mg "MOST_CAUSES" (.int 4)
end Kf

set_option Elab.async false
set_option linter.all false
set_option maxRecDepth 100000
set_option maxHeartbeats 2000000
namespace Kf
open PySem PySem.Spec PyProof.Rows L2 LamX NdefX
/-! ## targets -/
abbrev TGD := PyData → EnvD → (EnvD → Prop) → Prop
abbrev TGDs := List PyData → EnvD → (EnvD → Prop) → Prop
structure GD (B : Bas) (g : TG) (tg : TGD) (sl : List Nat) : Prop where
  run : ∀ (v : V) (d : PyData) (own : Owns) (σ : L2.St) (H : Hp) (E : EnvD) (k : EnvD → Prop) (Q : L2.St → Hp → Prop), Rep B own σ H E → Dx B.K (hid own H) v d → tg d E k →
    (∀ σ' E', k E' → Rep B own σ' H E' → (∀ j, j ∉ sl → σ'[j]? = σ[j]?) → σ'.length = σ.length → Q σ' H) → g v σ H Q
structure GDs (B : Bas) (g : TGs) (tg : TGDs) (sl : List Nat) : Prop where
  run : ∀ (vs : List V) (ds : List PyData) (own : Owns) (σ : L2.St) (H : Hp) (E : EnvD) (k : EnvD → Prop) (Q : L2.St → Hp → Prop), Rep B own σ H E → DxAll B.K (hid own H) vs ds → tg ds E k →
    (∀ σ' E', k E' → Rep B own σ' H E' → (∀ j, j ∉ sl → σ'[j]? = σ[j]?) → σ'.length = σ.length → Q σ' H) → g vs σ H Q
def dName (i : Nat) : TGD := fun d E k => i < E.length ∧ k (E.set i (some (.d d)))
def dNilG : TGDs := fun ds E k => match ds with
  | [] => k E
  | _ => False
def dConsG (t : TGD) (u : TGDs) : TGDs := fun ds E k => match ds with
  | d :: r => t d E fun E1 => u r E1 k
  | [] => False
def dTupG (n : Nat) (t : TGDs) : TGD := fun d E k => match d with
  | .tuple ds => ds.length = n ∧ t ds E k
  | _ => False
theorem Rep.putD {B : Bas} {own : Owns} {σ : L2.St} {H : Hp} {E : EnvD} {i : Nat} {v : V} {d : PyData} (R : Rep B own σ H E) (h : Dx B.K (hid own H) v d) (hi : i < E.length) : Rep B own (σ.set i (some v)) H (E.set i (some (.d d))) := by
  have hσ : i < σ.length := by rw [R.len]; exact hi
  refine ⟨by simp [R.len], R.al, R.bs, R.ss, R.tb, R.fr, R.nw, R.wd, fun j u e => ?_, fun j a m x e => by
    rcases set_at e with ⟨rfl, e2⟩ | ⟨ne, e2⟩
    · cases e2
    · rw [List.getElem?_set_ne (Ne.symm ne)]; exact R.pin j a m x e2⟩
  rcases set_at e with ⟨rfl, e2⟩ | ⟨ne, e2⟩
  · cases e2
    exact ⟨v, by rw [List.getElem?_set_self hσ], h⟩
  · obtain ⟨v', h1, h2⟩ := R.sl j u e2
    exact ⟨v', by rw [List.getElem?_set_ne (Ne.symm ne)]; exact h1, h2⟩
theorem gd_name {B : Bas} {i : Nat} : GD B (gName i) (dName i) [i] := ⟨fun v d own σ H E k Q rep da ht q => q _ _ ht.2 (rep.putD da ht.1) (fun j hj => by rw [List.getElem?_set_ne (fun e => hj (by simp [e]))]) (by simp)⟩
theorem gd_nil {B : Bas} : GDs B gNil dNilG [] := ⟨fun vs ds own σ H E k Q rep da ht q => by
  cases da with
  | nil => exact ⟨rfl, q σ E ht rep (fun _ _ => rfl) rfl⟩
  | cons _ _ => exact ht.elim⟩
theorem gd_cons {B : Bas} {g : TG} {gs : TGs} {t : TGD} {u : TGDs} {s1 s2 : List Nat} (h1 : GD B g t s1) (h2 : GDs B gs u s2) : GDs B (gCons g gs) (dConsG t u) (s1 ++ s2) := ⟨fun vs ds own σ H E k Q rep da ht q => by
  cases da with
  | nil => exact ht.elim
  | cons d r =>
    refine ⟨_, _, rfl, h1.run _ _ own σ H E _ _ rep d ht fun σ1 E1 k1 rep1 o1 l1 => h2.run _ _ own σ1 H E1 k Q rep1 r k1 fun σ2 E2 k2 rep2 o2 l2 => ?_⟩
    refine q σ2 E2 k2 rep2 (fun j hj => ?_) (l2.trans l1)
    rw [List.mem_append, not_or] at hj
    rw [o2 j hj.2, o1 j hj.1]⟩
theorem gd_tup {B : Bas} {gs : TGs} {t : TGDs} {n : Nat} {sl : List Nat} (h : GDs B gs t sl) : GD B (gTup B.K n gs) (dTupG n t) sl := ⟨fun v d own σ H E k Q rep da ht q => by
  cases da with
  | @tup a xs ds hs r => exact ⟨a, xs, rfl, sqT_sub hid_sub hs, by rw [r.len]; exact ht.1, h.run _ _ own σ H E k Q rep r ht.2 q⟩
  | _ => exact ht.elim⟩
/-! ## for -/
def forT (tg : TGD) (tb : TSD) : List PyData → EndD → EnvD → Prop
  | [], D, E => D.nx E
  | d :: r, D, E => tg d E fun E1 => tb { nx := forT tg tb r D, rt := D.rt, bk := D.nx, ct := forT tg tb r D, rs := D.rs } E1
section
variable {X : Cx} {B : Bas} {c e : Expr} {tg iter : Expr} {st : Stmt} {rest body orelse : List Stmt} {t u : TSD} {te : TV} {tc : TTd} {pos : Pos}
/-- what is walked gives data -/
structure WkD (B : Bas) (own1 : Owns) (H1 : Hp) (J : It) (G : Hp → Prop) (Y : Nat → Hp → V → Hp → Prop) (ds : List PyData) : Prop where
  w : Walk J ds.length G Y
  g : ∀ own H, Evo own1 H1 own H → G H
  y : ∀ i own H x H', i < ds.length → Evo own1 H1 own H → Y i H x H' → ∃ d S', ds[i]? = some d ∧ Stp B.T (hid own H) H S' H' ∧ Dx B.K S' x d
theorem loopFor {own1 : Owns} {H1 : Hp} {J : It} {G : Hp → Prop} {Y : Nat → Hp → V → Hp → Prop} {ds : List PyData} (W : WkD B own1 H1 J G Y ds) {g : TG} {td : TGD} {sl : List Nat} (hg : GD B g td sl) {tbH : TS} {tb : TSD} (hb : ∀ D σ H, liftS B tb D σ H → tbH D σ H) {D : Ends} {De : EndD} {σ : L2.St} {E : EnvD}
    (rep : Rep B own1 σ H1 E) (ht : forT td tb ds De E) (k1 : ∀ own' E' σ' H', De.nx E' → Evo own1 H1 own' H' → Rep B own' σ' H' E' → D.nx σ' H') (k2 : ∀ r own' E' σ' v H', De.rt r E' → RvAt B.K B.W own' H' .tmp v r → Rep B own' σ' H' E' → D.rt v H')
    (k5 : ∀ C fs own' E' σ' d H', De.rs C fs E' → Evo own1 H1 own' H' → ExcD B.K (hid own' H') d fs → Rep B own' σ' H' E' → B.wx (.ref C) d σ' H') :
    ∃ Wv : Nat → Nat → L2.St → Hp → Prop, (∃ m, Wv 0 m σ H1) ∧ ∀ i m σ H, Wv i m σ H →
      (J.stop i H ∧ D.nx σ H) ∨ (J.go i H ∧ ∃ N : L2.St → Hp → Prop, (∀ σ' H', N σ' H' → ∃ m', m' < m ∧ Wv (i + 1) m' σ' H') ∧ ∀ x H', J.yld i H x H' → g x σ H' fun σ2 H2 => tbH { D with nx := N, ct := N, bk := D.nx } σ2 H2) := by
  refine for_it W.w (fun i σ H => ∃ own E, Rep B own σ H E ∧ Evo own1 H1 own H ∧ forT td tb (ds.drop i) De E) ⟨own1, E, rep, Evo.refl _ _, ht⟩ (fun i σ H hi ⟨own, E, _, ev, _⟩ => W.g own H ev) (fun i x σ H H' hi ⟨own, E, rep, ev, ht⟩ y => ?_) fun σ H ⟨own, E, rep, ev, ht⟩ => ?_
  · obtain ⟨d, S', hd, st, da⟩ := W.y i own H x H' hi ev y
    have hdrop : ds.drop i = d :: ds.drop (i + 1) := by
      obtain ⟨hl, e⟩ := List.getElem?_eq_some_iff.mp hd
      rw [List.drop_eq_getElem_cons hl, e]
    rw [hdrop] at ht
    have rep' := rep.step st.sm
    have ev' : Evo own H own H' := .step st.sm.kp
    have da' : Dx B.K (hid own H') x d := Dx.sm (st.hid rep.al) da
    refine hg.run x d own σ H' E _ _ rep' da' ht fun σ2 E2 q2 rep2 _ _ => hb _ _ _ ⟨own, E2, _, rep2, q2, fun o3 E3 s3 H3 q3 ev3 rep3 => ⟨o3, E3, rep3, (ev.trans ev').trans ev3, q3⟩, k2, fun o3 E3 s3 H3 q3 ev3 rep3 => k1 o3 E3 s3 H3 q3 ((ev.trans ev').trans ev3) rep3, fun o3 E3 s3 H3 q3 ev3 rep3 => ⟨o3, E3, rep3, (ev.trans ev').trans ev3, q3⟩, fun C fs o3 E3 s3 d3 H3 q3 ev3 x3 rep3 => k5 C fs o3 E3 s3 d3 H3 q3 ((ev.trans ev').trans ev3) x3 rep3⟩
  · have hn : ds.drop ds.length = [] := List.drop_length
    rw [hn] at ht
    exact k1 own E σ H ht ev rep
/-- the items of what can be walked -/
def itemsD : PyData → Option (List PyData)
  | .list ds => some ds
  | .tuple ds => some ds
  | _ => none
theorem wk_sq {own1 : Owns} {H1 : Hp} {a : Addr} {b : Bool} {xs : List V} {ds : List PyData} (h : Sqb b B.K (hid own1 H1) a xs) (r : DxAll B.K (hid own1 H1) xs ds) : WkD B own1 H1 (Itb b B.K a) (fun H => Sqb b B.K H a xs) (YAt xs) ds := by
  have mv : ∀ {S S' : Hp}, ExtN S S' → Sqb b B.K S a xs → Sqb b B.K S' a xs := fun {S S'} s h => by
    cases b with
    | true => exact ex_sqL s h
    | false => exact ex_sqT s h
  refine ⟨by rw [← r.len]; exact walk_sq, fun own H ev => mv (ExtN.trans ev.ex hid_ex) h, fun i own H x H' hi ev y => ?_⟩
  obtain ⟨rfl, hx⟩ := y
  obtain ⟨d, h1, h2⟩ := r.get hx
  exact ⟨d, hid own H', h1, Stp.refl hid_sub, Dx.sm ev.ex h2⟩
/-- what an iterator's reading gives -/
abbrev TID := EnvD → (List PyData → EnvD → Prop) → Prop
def ID (B : Bas) (wi : TI) (td : TID) : Prop := ∀ (σ : L2.St) (H : Hp) (Q : It → Hp → Prop) (own : Owns) (E : EnvD) (R : List PyData → EnvD → Prop), Rep B own σ H E → td E R →
  (∀ ds E1 own1 H1 J G Y, R ds E1 → Evo own H own1 H1 → Rep B own1 σ H1 E1 → WkD B own1 H1 J G Y ds → Q J H1) → wi σ H Q
def dSq (ti : TV) : TID := fun E R => ti E fun r E1 => r.toD (fun d E1 => match itemsD d with
  | some ds => R ds E1
  | none => False) E1
theorem id_sq {ti : TV} : ID B (iSq B.K (liftD B ti)) (dSq ti) := fun σ H Q own E R rep ht k => by
  refine ⟨own, E, _, rep, ht, fun d E1 own1 v H1 q1 ev1 da rep1 => ?_⟩
  cases da with
  | @lst a xs ds h r => exact ⟨a, true, rfl, ⟨xs, sqL_sub hid_sub h⟩, k ds E1 own1 H1 _ _ _ q1 ev1 rep1 (wk_sq (b := true) h r)⟩
  | @tup a xs ds h r => exact ⟨a, false, rfl, ⟨xs, sqT_sub hid_sub h⟩, k ds E1 own1 H1 _ _ _ q1 ev1 rep1 (wk_sq (b := false) h r)⟩
  | _ => exact q1.elim
/-- for target in .. -/
def sFor (td : TID) (tg : TGD) (tb : TSD) : TSD := fun D E => td E fun ds E1 => forT tg tb ds D E1
theorem es_for {wi : TI} {td : TID} {g : TG} {tgd : TGD} {sl : List Nat} {tb : TSD} (hid_ : ID B wi td) (hgd : GD B g tgd sl) (hps : PS X st (tFor wi g (liftS B tb))) :
    PS X st (liftS B (sFor td tgd tb)) := PS_mono hps fun D σ H hq => by
  obtain ⟨own, E, De, rep, ht, k1, k2, k3, k4, k5⟩ := hq
  exact hid_ σ H _ own E _ rep ht fun ds E1 own1 H1 J G Y q1 ev1 rep1 W => loopFor W hgd (fun D σ H h => h) rep1 q1 (fun own' E' σ' H' q ev rep => k1 own' E' σ' H' q (ev1.trans ev) rep) k2 fun C fs o3 E3 s3 d3 H3 q3 ev3 x3 rep3 => k5 C fs o3 E3 s3 d3 H3 q3 (ev1.trans ev3) x3 rep3
/-! ### range, text, enumerate -/
def rangeD (lo : Int) (n : Nat) : List PyData := (List.range n).map fun (i : Nat) => .int (lo + (i : Int))
theorem wk_range {own1 : Owns} {H1 : Hp} {lo : Int} {n : Nat} : WkD B own1 H1 (Itr lo n) (fun _ => True) (YFn fun i => .int (lo + i)) (rangeD lo n) := by
  have e : (rangeD lo n).length = n := by simp [rangeD]
  refine ⟨by rw [e]; exact walk_range, fun _ _ _ => trivial, fun i own H x H' hi ev y => ?_⟩
  obtain ⟨rfl, rfl⟩ := y
  rw [e] at hi
  exact ⟨.int (lo + i), hid own H', by simp [rangeD, hi], Stp.refl hid_sub, .int _⟩
def dRange (ts : TVs) : TID := fun E R => ts E fun rs E1 => toDs rs fun ds => match ds with
  | [.int j] => (-(2 ^ 62) ≤ j ∧ j < 2 ^ 62) ∧ R (rangeD 0 j.toNat) E1
  | _ => False
def dRange2 (ts : TVs) : TID := fun E R => ts E fun rs E1 => toDs rs fun ds => match ds with
  | [.int i, .int j] => (-(2 ^ 62) ≤ i ∧ i < 2 ^ 62 ∧ -(2 ^ 62) ≤ j ∧ j < 2 ^ 62) ∧ R (rangeD i (j - i).toNat) E1
  | _ => False
theorem id_range1 {ts : TVs} : ID B (iRng1 (liftA B ts)) (dRange ts) := fun σ H Q own E R rep ht k => by
  refine ⟨own, E, _, rep, ht, fun rs E1 own1 vs H1 q1 ev1 rs1 rep1 => ?_⟩
  unfold toDs at q1
  cases e : datas rs with
  | none => rw [e] at q1; exact q1.elim
  | some ds =>
    rw [e] at q1
    have da := datas_da rs1 e
    rcases ds with _ | ⟨d, _ | ⟨d2, r⟩⟩
    · exact q1.elim
    · cases d with
      | int j =>
        cases da with
        | cons h r =>
          cases h
          cases r
          exact ⟨j, rfl, q1.1.1, q1.1.2, k _ E1 own1 H1 _ _ _ q1.2 ev1 rep1 wk_range⟩
      | _ => exact q1.elim
    · cases d <;> exact q1.elim
theorem id_range2 {ts : TVs} : ID B (iRng2 (liftA B ts)) (dRange2 ts) := fun σ H Q own E R rep ht k => by
  refine ⟨own, E, _, rep, ht, fun rs E1 own1 vs H1 q1 ev1 rs1 rep1 => ?_⟩
  unfold toDs at q1
  cases e : datas rs with
  | none => rw [e] at q1; exact q1.elim
  | some ds =>
    rw [e] at q1
    have da := datas_da rs1 e
    rcases ds with _ | ⟨d, _ | ⟨d2, _ | ⟨d3, r⟩⟩⟩
    · exact q1.elim
    · cases d <;> exact q1.elim
    · cases d with
      | int i =>
        cases d2 with
        | int j =>
          cases da with
          | cons h r =>
            cases h
            cases r with
            | cons h r =>
              cases h
              cases r
              exact ⟨i, j, rfl, q1.1, k _ E1 own1 H1 _ _ _ q1.2 ev1 rep1 wk_range⟩
        | _ => exact q1.elim
      | _ => exact q1.elim
    · cases d <;> first | exact q1.elim | (cases d2 <;> exact q1.elim)
/-- the signs of a text -/
def signsD (z : Str) : List PyData := z.cps.toList.map fun c => .str ⟨#[c]⟩
theorem wk_str {own1 : Owns} {H1 : Hp} {z : Str} : WkD B own1 H1 (Its z) (fun _ => True) (fun i H v H' => H' = H ∧ ∃ c, z.cps[i]? = some c ∧ v = .str ⟨#[c]⟩) (signsD z) := by
  have e : (signsD z).length = z.cps.size := by simp [signsD]
  refine ⟨by rw [e]; exact walk_str, fun _ _ _ => trivial, fun i own H x H' hi ev y => ?_⟩
  obtain ⟨rfl, c, hc, rfl⟩ := y
  refine ⟨.str ⟨#[c]⟩, hid own H', ?_, Stp.refl hid_sub, .str _⟩
  unfold signsD
  rw [List.getElem?_map, Array.getElem?_toList, hc]
  rfl
def dSigns (ti : TV) : TID := fun E R => ti E fun r E1 => r.toD (fun d E1 => match d with
  | .str z => R (signsD z) E1
  | _ => False) E1
theorem id_str {ti : TV} : ID B (iStr (liftD B ti)) (dSigns ti) := fun σ H Q own E R rep ht k => by
  refine ⟨own, E, _, rep, ht, fun d E1 own1 v H1 q1 ev1 da rep1 => ?_⟩
  cases da with
  | str z => exact ⟨z, rfl, k _ E1 own1 H1 _ _ _ q1 ev1 rep1 wk_str⟩
  | _ => exact q1.elim
end
end Kf

set_option Elab.async false
set_option linter.all false
set_option maxRecDepth 100000
set_option maxHeartbeats 2000000
namespace Kf
open PySem PySem.Spec PyProof.Rows L2 LamX NdefX
/-! ## list comprehensions -/
def wipeE (E : EnvD) : List Nat → EnvD
  | [] => E
  | v :: vs => (wipeE E vs).set v none
def keepR : Option (Option Rv) → Option Rv
  | some (some (.d x)) => some (.d x)
  | _ => none
/-- behind a comprehension: its own names have what they had, if that was data -/
def backE (E0 E : EnvD) : List Nat → EnvD
  | [] => E
  | v :: vs => (backE E0 E vs).set v (keepR E0[v]?)
theorem wipeE_len (E : EnvD) : ∀ vs, (wipeE E vs).length = E.length
  | [] => rfl
  | v :: vs => by unfold wipeE; rw [List.length_set, wipeE_len E vs]
theorem wipeE_some {E : EnvD} {i : Nat} {r : Rv} : ∀ {vs : List Nat}, (wipeE E vs)[i]? = some (some r) → E[i]? = some (some r) ∧ i ∉ vs
  | [], h => ⟨h, by simp⟩
  | v :: vs, h => by
    unfold wipeE at h
    rcases set_at h with ⟨_, e⟩ | ⟨ne, e⟩
    · cases e
    · obtain ⟨h1, h2⟩ := wipeE_some e
      exact ⟨h1, by simp only [List.mem_cons, not_or]; exact ⟨ne, h2⟩⟩
theorem backE_len (E0 E : EnvD) : ∀ vs, (backE E0 E vs).length = E.length
  | [] => rfl
  | v :: vs => by unfold backE; rw [List.length_set, backE_len E0 E vs]
theorem backE_some {E0 E : EnvD} {i : Nat} {r : Rv} : ∀ {vs : List Nat}, (backE E0 E vs)[i]? = some (some r) → (E[i]? = some (some r) ∧ i ∉ vs) ∨ ∃ x, r = .d x ∧ E0[i]? = some (some (.d x))
  | [], h => .inl ⟨h, by simp⟩
  | v :: vs, h => by
    unfold backE at h
    rcases set_at h with ⟨rfl, e⟩ | ⟨ne, e⟩
    · right
      unfold keepR at e
      split at e
      · rename_i x hx
        cases e
        exact ⟨x, rfl, hx⟩
      · cases e
    · rcases backE_some e with ⟨h1, h2⟩ | h1
      · exact .inl ⟨h1, by simp only [List.mem_cons, not_or]; exact ⟨ne, h2⟩⟩
      · exact .inr h1
theorem wipe_in {σ : L2.St} {i : Nat} : ∀ {vs : List Nat}, i ∈ vs → i < σ.length → (wipe σ vs)[i]? = some none
  | v :: vs, h, hi => by
    unfold wipe
    by_cases z : v = i
    · subst z
      rw [List.getElem?_set_self (by rw [wipe_length]; exact hi)]
    · rw [List.getElem?_set_ne z]
      exact wipe_in ((List.mem_cons.mp h).resolve_left fun e => z e.symm) hi
theorem wipe_out2 {σ : L2.St} {i : Nat} : ∀ {vs : List Nat}, i ∉ vs → (wipe σ vs)[i]? = σ[i]?
  | [], _ => rfl
  | v :: vs, h => by
    unfold wipe
    simp only [List.mem_cons, not_or] at h
    rw [List.getElem?_set_ne (Ne.symm h.1)]
    exact wipe_out2 h.2
theorem wipe_eq {σ σ' : L2.St} {vs sl : List Nat} (hs : ∀ j ∈ sl, j ∈ vs) (o : ∀ j, j ∉ sl → σ'[j]? = (wipe σ vs)[j]?) (l : σ'.length = (wipe σ vs).length) : wipe σ' vs = wipe σ vs := by
  refine List.ext_getElem? fun i => ?_
  by_cases hi : i ∈ vs
  · by_cases hl : i < σ.length
    · have hl' : i < σ'.length := by rw [l, wipe_length]; exact hl
      rw [wipe_in hi hl', wipe_in hi hl]
    · rw [List.getElem?_eq_none (by rw [wipe_length, l, wipe_length]; omega), List.getElem?_eq_none (by rw [wipe_length]; omega)]
  · rw [wipe_out2 hi, o i (fun z => hi (hs i z))]
section
variable {B : Bas} {own : Owns} {σ : L2.St} {H : Hp} {E : EnvD}
theorem Rep.wipe (R : Rep B own σ H E) (vs : List Nat) : Rep B own (wipe σ vs) H (wipeE E vs) :=
  ⟨by rw [wipe_length, wipeE_len]; exact R.len, R.al, R.bs, R.ss, R.tb, R.fr, R.nw, R.wd, fun i r e => by
    obtain ⟨h1, h2⟩ := wipeE_some e
    obtain ⟨v, hv, ra⟩ := R.sl i r h1
    exact ⟨v, by rw [wipe_out2 h2]; exact hv, ra⟩, fun i a m x e => by
    obtain ⟨h1, h2⟩ := wipeE_some e
    rw [wipe_out2 h2]; exact R.pin i a m x h1⟩
theorem Rep.back {own0 : Owns} {H0 : Hp} {E0 : EnvD} {vs : List Nat} (R0 : Rep B own0 σ H0 E0) (R : Rep B own (L2.wipe σ vs) H E) (ev : Evo own0 H0 own H) : Rep B own σ H (backE E0 E vs) :=
  ⟨by rw [backE_len, ← R.len, wipe_length], R.al, R.bs, R.ss, R.tb, R.fr, R.nw, R.wd, fun i r e => by
    rcases backE_some e with ⟨h1, h2⟩ | ⟨x, rfl, h1⟩
    · obtain ⟨v, hv, ra⟩ := R.sl i r h1
      exact ⟨v, by rw [wipe_out2 h2] at hv; exact hv, ra⟩
    · obtain ⟨v, hv, ra⟩ := R0.sl i _ h1
      exact ⟨v, hv, Dx.sm ev.ex ra⟩, fun i a m x e => by
    rcases backE_some e with ⟨h1, h2⟩ | ⟨y, q, h1⟩
    · have := R.pin i a m x h1
      rw [wipe_out2 h2] at this; exact this
    · cases q⟩
end
def compT (tg : TGD) (tt : TTd) (te : TV) (vs : List Nat) : List PyData → List PyData → EnvD → (List PyData → EnvD → Prop) → Prop
  | [], acc, E, R => R acc E
  | d :: r, acc, E, R => tg d E fun E1 => tt E1 fun b E2 => if b = true then te E2 fun rv E3 => rv.toD (fun y E3 => acc.length < sizeLine ∧ compT tg tt te vs r (acc ++ [y]) (wipeE E3 vs) R) E3 else compT tg tt te vs r acc (wipeE E2 vs) R
/-- [e for target in .. if t] -/
def dComp (td : TID) (tg : TGD) (tt : TTd) (te : TV) (vs : List Nat) : TV := fun E R => td E fun ds E1 => compT tg tt te vs ds [] (wipeE E1 vs) fun acc E2 => R (.o (.list acc)) (backE E1 E2 vs)
end Kf

set_option Elab.async false
set_option linter.all false
set_option maxRecDepth 100000
set_option maxHeartbeats 2000000
namespace Kf
open PySem PySem.Spec PyProof.Rows L2 LamX NdefX
section
variable {B : Bas} {own own1 : Owns} {σ : L2.St} {H H1 : Hp} {E : EnvD} {D : Addr}
theorem lst_code {xs : List V} {c : Addr} {q : Str} : HO.lst xs ≠ CodeO c q := fun z => by unfold CodeO at z; cases z
theorem dk_code {xs : List (Key × V)} {c : Addr} {q : Str} : HO.dK xs ≠ CodeO c q := fun z => by unfold CodeO at z; cases z
/-- a dict is no code object -/
theorem nd_code {P : Program} {w : World} {a : Addr} {xs : NEs} {q : Str} : NDict P w a xs ≠ CodeO a q := fun z => by
  unfold NDict CodeO at z
  injection z with z
  obtain ⟨oc, hoc⟩ : ∃ oc : Obj, oc = { cls := .none, data := .fields #[.none, .str q 0] } := ⟨_, rfl⟩
  have hg : ({ objs := Array.replicate (a + 1) oc } : Heap).get? a = some oc := by
    unfold Heap.get?
    have : (Array.replicate (a + 1) oc)[a]? = some oc := by simp
    rw [this, hoc]
  have h := congrFun z { objs := Array.replicate (a + 1) oc }
  have yes : ∃ (oc' : Obj) (vs : Array Value) (t : Tok), ({ objs := Array.replicate (a + 1) oc } : Heap).get? a = some oc' ∧ oc'.data = .fields vs ∧ vs[1]? = some (.str q t) := ⟨oc, #[.none, .str q 0], 0, hg, by rw [hoc], rfl⟩
  rw [← h] at yes
  obtain ⟨_, _, ys, _, o, es, ep, e1, _, e3, _⟩ := yes
  rw [hg] at e1
  cases e1
  rw [hoc] at e3
  cases e3
theorem tabs_updN {T : List NTab} {H : Hp} {x : Addr} {o' : HO} (h : ∀ o, H x = some o → (∀ ps, o ≠ .tbl ps) ∧ ∀ q, o ≠ CodeO x q) (t : TabsN T H) : TabsN T (upd H x o') := fun p hp => by
  obtain ⟨ps, h1, h2, h3⟩ := t p hp
  refine ⟨ps, by rw [upd_ne (fun z => (h _ (by rw [← z]; exact h1)).1 ps rfl)]; exact h1, h2, fun p' cv hcv => ?_⟩
  obtain ⟨c', e, h4⟩ := h3 p' cv hcv
  refine ⟨c', e, ?_⟩
  rw [upd_ne (fun z => by subst z; exact (h _ h4).2 _ rfl)]
  exact h4
/-- a thing that is pinned (no caller's) is written -/
theorem Rep.updFr {o' : HO} (hno : noT o') (R : Rep B own σ H E) (w : own D = some .fr) (n0 : B.H0 D = none) (ho : ∀ o, H D = some o → (∀ ps, o ≠ .tbl ps) ∧ ∀ q, o ≠ CodeO D q) : Rep B own σ (upd H D o') E := by
  have nm : ∀ b, own b = some .mu → b ≠ D := fun b hb z => by subst z; rw [w] at hb; cases hb
  have eh : hid own (upd H D o') = hid own H := by
    funext b
    by_cases z : b = D
    · subst z; rw [hid_own w, hid_own w]
    · unfold hid; rw [upd_ne z]
  refine ⟨R.len, fun b e => ?_, ⟨fun b u e hm n => ?_, fun b e => ?_, fun t => tabs_updN ho (R.bs.tb t)⟩, by rw [eh]; exact R.ss, tabs_updN ho R.tb, R.fr, R.nw, R.wd.ext (fun b hb => ⟨hb, fun o h _ => by rw [upd_ne (nm b hb)]; exact h⟩) (fun b w1 e => by
    by_cases z : b = D
    · subst z; exact .inl ⟨_, upd_same, hno⟩
    · exact .inr ⟨⟨w1, e⟩, fun o e n => ⟨o, by rw [upd_ne z]; exact e, n⟩⟩), fun i r e => ?_, R.pin⟩
  · by_cases z : b = D
    · subst z; rw [upd_same] at e; cases e
    · rw [upd_ne z] at e; exact R.al b e
  · rw [upd_ne (fun z => by subst z; rw [n0] at e; cases e)]
    exact R.bs.kp b u e hm n
  · by_cases z : b = D
    · subst z; exact n0
    · rw [upd_ne z] at e; exact R.bs.nn b e
  · obtain ⟨v, hv, ra⟩ := R.sl i r e
    refine ⟨v, hv, ?_⟩
    cases r with
    | o x =>
      obtain ⟨a, e1, e2, h3⟩ := ra
      have na : a ≠ D := fun z => by subst z; rw [w] at e2; cases e2
      exact ⟨a, e1, e2, h3.sm (by rw [eh]; exact .refl _) (upd_ne na)⟩
    | d x => exact RvS.sm (K := B.K) (W := B.W) (r := .d x) (by rw [eh]; exact .refl _) ra
    | a φ => exact RvS.sm (K := B.K) (W := B.W) (r := .a φ) (by rw [eh]; exact .refl _) ra
    | ob C fs => exact RvS.sm (K := B.K) (W := B.W) (r := .ob C fs) (by rw [eh]; exact .refl _) ra
    | m c => exact ra
theorem Evo.updFr {o' : HO} (ev : Evo own1 H1 own H) (w : own D = some .fr) (n : own1 D = none) : Evo own1 H1 own (upd H D o') := by
  have eh : hid own (upd H D o') = hid own H := by
    funext b
    by_cases z : b = D
    · subst z; rw [hid_own w, hid_own w]
    · unfold hid; rw [upd_ne z]
  refine ⟨by rw [eh]; exact ev.ex, fun a h => ⟨(ev.fr a h).1, fun o e nt => ?_⟩⟩
  rw [upd_ne (fun z => by subst z; rw [n] at h; cases h)]
  exact (ev.fr a h).2 o e nt
/-- a new thing, pinned -/
theorem Rep.newFr {o' : HO} (hno : noT o') (R : Rep B own σ H E) (np : H D = none) : Rep B (own.set D (some .fr)) σ (upd H D o') E ∧ Evo own H (own.set D (some .fr)) (upd H D o') := by
  have op : own D = none := R.al D np
  have s : Sm B.T H (upd H D o') := Same.sm fun b u e => by rw [upd_ne (ne_of_none e np)]; exact e
  have ss : ExtN (hid own H) (hid (own.set D (some .fr)) (upd H D o')) := fun b o e n => by
    obtain ⟨h1, h2⟩ := hid_some e
    have nb : b ≠ D := ne_of_none h2 np
    rw [hid_no (by rw [Owns.set_ne nb]; exact h1), upd_ne nb]
    exact h2
  have evo : Evo own H (own.set D (some .fr)) (upd H D o') := ⟨ss, fun b hb => ⟨by
    rw [Owns.set_ne (fun z => by subst z; rw [op] at hb; cases hb)]
    exact hb, fun o e n => s.kp b o e n⟩⟩
  refine ⟨⟨R.len, fun b e => ?_, R.bs.trans s.m, R.ss.trans ss, s.tb R.tb, fun b h1 h2 h3 => ?_, fun b u e => ?_, R.wd.ext (fun b hb => ⟨by
    rw [Owns.set_ne (fun z => by subst z; rw [op] at hb; cases hb)]
    exact hb, fun o e n => s.kp b o e n⟩) (fun b w1 e => by
    by_cases z : b = D
    · subst z; exact .inl ⟨_, upd_same, hno⟩
    · rw [Owns.set_ne z] at e
      exact .inr ⟨⟨w1, e⟩, fun o e n => ⟨o, by rw [upd_ne z]; exact e, n⟩⟩), fun i r e => ?_, R.pin⟩, evo⟩
  · have nb : b ≠ D := fun z => by subst z; rw [upd_same] at e; cases e
    rw [Owns.set_ne nb]
    rw [upd_ne nb] at e
    exact R.al b e
  · have nb : b ≠ D := fun z => by subst z; exact h1 (R.bs.nn _ np)
    rw [Owns.set_ne nb]
    exact R.fr b h1 h2 h3
  · by_cases z : b = D
    · subst z
      rw [Owns.set_same] at e
      exact .inl (Option.some.inj e).symm
    · rw [Owns.set_ne z] at e
      exact R.nw b u e
  · obtain ⟨v, h1, h2⟩ := R.sl i r e
    refine ⟨v, h1, ?_⟩
    cases r with
    | o y =>
      obtain ⟨b, e1, e2, h3⟩ := h2
      have nb : b ≠ D := fun z => by subst z; rw [op] at e2; cases e2
      exact ⟨b, e1, by rw [Owns.set_ne nb]; exact e2, h3.ext ss s.kp⟩
    | d x => exact RvS.sm (K := B.K) (W := B.W) (r := .d x) ss h2
    | a φ => exact RvS.sm (K := B.K) (W := B.W) (r := .a φ) ss h2
    | ob C fs => exact RvS.sm (K := B.K) (W := B.W) (r := .ob C fs) ss h2
    | m c => exact h2
/-- what was pinned is handed on -/
theorem Rep.unpin (R : Rep B own σ H E) (w : own D = some .fr) (n0 : B.H0 D = none) : Rep B (own.set D (some .tmp)) σ H E ∧ hid (own.set D (some .tmp)) H = hid own H := by
  have eh : hid (own.set D (some .tmp)) H = hid own H := by
    funext b
    by_cases z : b = D
    · subst z; rw [hid_own w, hid_own Owns.set_same]
    · unfold hid; rw [Owns.set_ne z]
  refine ⟨⟨R.len, fun b e => ?_, R.bs, by rw [eh]; exact R.ss, R.tb, fun b h1 h2 h3 => ?_, fun b u e => ?_, R.wd.ext0 (fun b hb => by
    rw [Owns.set_ne (fun z => by subst z; rw [w] at hb; cases hb)]
    exact hb) (fun b w1 e => by
    by_cases z : b = D
    · subst z; exact ⟨_, w⟩
    · rw [Owns.set_ne z] at e
      exact ⟨w1, e⟩), fun i r e => ?_, R.pin⟩, eh⟩
  · have q := R.al b e
    have nb : b ≠ D := fun z => by subst z; rw [w] at q; cases q
    rw [Owns.set_ne nb]
    exact q
  · rw [Owns.set_ne (fun z => by subst z; exact h1 n0)]
    exact R.fr b h1 h2 h3
  · by_cases z : b = D
    · subst z
      exact .inr (.inr (.inl n0))
    · rw [Owns.set_ne z] at e
      exact R.nw b u e
  · obtain ⟨v, h1, h2⟩ := R.sl i r e
    refine ⟨v, h1, ?_⟩
    cases r with
    | o y =>
      obtain ⟨b, e1, e2, h3⟩ := h2
      have nb : b ≠ D := fun z => by subst z; rw [w] at e2; cases e2
      exact ⟨b, e1, by rw [Owns.set_ne nb]; exact e2, h3.sm (by rw [eh]; exact .refl _) rfl⟩
    | d x => exact RvS.sm (K := B.K) (W := B.W) (r := .d x) (by rw [eh]; exact .refl _) h2
    | a φ => exact RvS.sm (K := B.K) (W := B.W) (r := .a φ) (by rw [eh]; exact .refl _) h2
    | ob C fs => exact RvS.sm (K := B.K) (W := B.W) (r := .ob C fs) (by rw [eh]; exact .refl _) h2
    | m c => exact h2
end
section
variable {X : Cx} {B : Bas} {e : Expr} {te : TV} {tt : TTd} {pos : Pos}
theorem lcE {wi : TI} {td : TID} {g : TG} {tgd : TGD} {sl vs : List Nat} (hi : ID B wi td) (hg : GD B g tgd sl) (hsl : ∀ j ∈ sl, j ∈ vs) {σ : L2.St} {H : Hp} {Q : VK} (hq : liftE B (dComp td tgd tt te vs) σ H Q) : tLc wi g (liftT B tt) (liftD B te) vs σ H Q := by
  obtain ⟨own, E, R, rep, ht, k⟩ := hq
  refine hi σ H _ own E _ rep ht fun ds E1 own1 H1 J G Y q1 ev1 rep1 W => fun D nD => ?_
  have op : own1 D = none := rep1.al D nD
  have n0 : B.H0 D = none := rep1.bs.nn D nD
  obtain ⟨repA, evA⟩ := (rep1.wipe vs).newFr (o' := .lst []) trivial nD
  refine lc_it W.w (fun i H => ∃ own E acc, Rep B own (wipe σ vs) H E ∧ Evo own1 H1 own H ∧ own D = some .fr ∧ (∃ xs, H D = some (.lst xs) ∧ DxAll B.K (hid own H) xs acc) ∧ compT tgd tt te vs (ds.drop i) acc E fun acc E2 => R (.o (.list acc)) (backE E1 E2 vs))
    ⟨_, _, [], repA, evA, Owns.set_same, ⟨[], upd_same, .nil⟩, q1⟩ (fun i H hi ⟨own, E, acc, _, ev, _⟩ => W.g own H ev) (fun i x H H' hi ⟨own, E, acc, rep, ev, w, ⟨xs, hD, hx⟩, ht⟩ y => ?_) fun H ⟨own, E, acc, rep, ev, w, ⟨xs, hD, hx⟩, ht⟩ => ?_
  · obtain ⟨d, S', hd, st, da⟩ := W.y i own H x H' hi ev y
    have hdrop : ds.drop i = d :: ds.drop (i + 1) := by
      obtain ⟨hl, e⟩ := List.getElem?_eq_some_iff.mp hd
      rw [List.drop_eq_getElem_cons hl, e]
    rw [hdrop] at ht
    have rep' := rep.step st.sm
    have ev' : Evo own H own H' := .step st.sm.kp
    have da' : Dx B.K (hid own H') x d := Dx.sm (st.hid rep.al) da
    refine hg.run x d own _ H' E _ _ rep' da' ht fun σ2 E2 q2 rep2 o2 l2 => ⟨wipe_eq hsl o2 l2, ?_⟩
    have wip : ∀ {own3 : Owns} {H3 : Hp} {E3 : EnvD}, Rep B own3 σ2 H3 E3 → Rep B own3 (wipe σ vs) H3 (wipeE E3 vs) := fun {own3 H3 E3} r => by
      have := r.wipe vs
      rw [wipe_eq hsl o2 l2] at this
      exact this
    refine ⟨own, E2, _, rep2, q2, fun b E3 own3 H3 q3 ev3 rep3 => ?_⟩
    have ev13 := (ev.trans ev').trans ev3
    obtain ⟨w3, hk3⟩ := (ev'.trans ev3).fr D w
    have hD3 := hk3 _ hD (by intro _ z; cases z)
    have hx3 := hx.sm (ev'.trans ev3).ex
    cases b with
    | false => exact iteF ⟨own3, _, acc, wip rep3, ev13, w3, ⟨xs, hD3, hx3⟩, q3⟩
    | true =>
      refine iteT ⟨own3, E3, _, rep3, q3, fun y E4 own4 v H4 q4 ev4 da4 rep4 => ?_⟩
      obtain ⟨w4, hk4⟩ := ev4.fr D w3
      have hD4 := hk4 _ hD3 (by intro _ z; cases z)
      have hx4 := hx3.sm ev4.ex
      have hob : ∀ o, H4 D = some o → (∀ ps, o ≠ .tbl ps) ∧ ∀ q, o ≠ CodeO D q := fun o e => by
        rw [hD4] at e
        cases e
        exact ⟨nofun, fun _ => lst_code⟩
      have eh : hid own4 (upd H4 D (.lst (xs ++ [v]))) = hid own4 H4 := by
        funext b
        by_cases z : b = D
        · subst z; rw [hid_own w4, hid_own w4]
        · unfold hid; rw [upd_ne z]
      refine ⟨xs, hD4, by rw [hx4.len]; exact q4.1, own4, _, acc ++ [y], (wip rep4).updFr trivial w4 n0 hob, (ev13.trans ev4).updFr w4 op, w4, ⟨xs ++ [v], upd_same, ?_⟩, q4.2⟩
      rw [eh]
      exact hx4.app (.cons da4 .nil)
  · have hn : ds.drop ds.length = [] := List.drop_length
    rw [hn] at ht
    obtain ⟨repU, eh⟩ := rep.unpin w n0
    have evU : Evo own1 H1 (own.set D (some .tmp)) H := ⟨by rw [eh]; exact ev.ex, fun a h => ⟨by
      rw [Owns.set_ne (fun z => by subst z; rw [op] at h; cases h)]
      exact (ev.fr a h).1, (ev.fr a h).2⟩⟩
    have repB := rep1.back repU evU
    exact k _ _ _ _ H ht (ev1.trans evU) ⟨D, rfl, Owns.set_same, xs, hD, by rw [eh]; exact hx⟩ repB
/-- no test, one test -/
def dYes : TTd := fun E R => R true E
theorem et_yes : PTs X [] (liftT B dYes) := ⟨fun pins s σ H Q I hq => by
  obtain ⟨own, E, R, rep, ht, k⟩ := hq
  exact pts_nil.run pins s σ H Q I (k true E own H ht (Evo.refl _ _) rep)⟩
theorem et_pone {c : Expr} {t : TTd} (h : PT X c (liftT B t)) : PTs X [c] (liftT B t) := pts_one h
/-- a list comprehension as a value; given to a name -/
theorem ev_lc {wi : TI} {td : TID} {g : TG} {tgd : TGD} {sl vs : List Nat} (hi : ID B wi td) (hg : GD B g tgd sl) (hsl : ∀ j ∈ sl, j ∈ vs) (h : PE X e (tLc wi g (liftT B tt) (liftD B te) vs)) : PE X e (liftE B (dComp td tgd tt te vs)) := PE_mono h fun _ _ _ => lcE hi hg hsl
theorem es_setLc {i : Nat} {st : Stmt} {wi : TI} {td : TID} {g : TG} {tgd : TGD} {sl vs : List Nat} (hi : ID B wi td) (hg : GD B g tgd sl) (hsl : ∀ j ∈ sl, j ∈ vs) (hio : ∀ a, (i, a) ∉ B.gv) (h : PS X st (tAsg (tLc wi g (liftT B tt) (liftD B te) vs) (gName i))) : PS X st (liftS B (sSet i (dComp td tgd tt te vs))) := PS_mono h fun D σ H hq => lcE hi hg hsl (setE hio hq)
end
end Kf

set_option Elab.async false
set_option linter.all false
set_option maxRecDepth 100000
set_option maxHeartbeats 2000000
namespace Kf
open PySem PySem.Spec PyProof.Rows L2 LamX NdefX
/-! ## a def as a whole -/
/-- the things of W stand in H and are not shared -/
structure Wf (W : List Comp) (S H : Hp) : Prop where
  hs : ∀ a, muW W a → S a = none ∧ H a ≠ none
  kp : ∀ c ∈ W, c.κ H
  dj : ∀ c ∈ W, ∀ c' ∈ W, ∀ a, c.mu a → c'.mu a → c = c'
  nt : ∀ a o, H a = some o → S a = none → noT o
theorem Wf.nil {S H : Hp} (h : ∀ a o, H a = some o → S a = none → noT o) : Wf [] S H := ⟨(fun a ⟨c, h, _⟩ => by cases h), (fun c h => by cases h), (fun c h => by cases h), h⟩
def spT (T : List NTab) (K : KW) (n : Nat) (tf : List Rv → (Rv → Prop) → Prop) : Sp := fun vs H Q _ => ∃ S rs R W, vs.length = n ∧ Sub S H ∧ TabsN T H ∧ Wf W S H ∧ Paired (RvS K W S) vs rs ∧ tf rs R ∧ ∀ r v S' H', R r → StpW T W S H S' H' → RvN K W H S' H' v r → Q v H'
def defT (n : Nat) (t : TSD) : List Rv → (Rv → Prop) → Prop := fun rs R => t { nx := fun _ => R (.d .none), rt := fun r _ => R r } (rs.map some ++ List.replicate (n - rs.length) none)
theorem pairLen {α β : Type} {F : α → β → Prop} : ∀ {xs : List α} {ys : List β}, Paired F xs ys → xs.length = ys.length
  | _, _, .nil => rfl
  | _, _, .cons _ t => congrArg (· + 1) (pairLen t)
theorem pairGet {α β : Type} {F : α → β → Prop} : ∀ {xs : List α} {ys : List β}, Paired F xs ys → ∀ {i : Nat} {y : β}, ys[i]? = some y → ∃ x, xs[i]? = some x ∧ F x y
  | _, _, .nil, i, y, h => by cases h
  | _, _, .cons a t, 0, y, h => by cases h; exact ⟨_, rfl, a⟩
  | _, _, .cons a t, i + 1, y, h => pairGet t h
/-! ### a def that is given things to change -/
/-- what is left of them -/
def outE (E : EnvD) (i : Nat) : Option PyData := match E[i]? with
  | some (some (.o x)) => some x
  | _ => none
def outsE (E : EnvD) (ios : List Nat) : List (Option PyData) := ios.map (outE E)
def argR (K : KW) (W : List Comp) (S H : Hp) (gv : GV) (i : Nat) (v : V) : Rv → Prop
  | .o x => ∃ a, v = .ref a ∧ (i, a) ∈ gv ∧ OwnAt K S H a x
  | r => RvS K W S v r
def argsR (K : KW) (W : List Comp) (S H : Hp) (gv : GV) (vs : List V) (rs : List Rv) : Prop := vs.length = rs.length ∧ ∀ i r, rs[i]? = some r → ∃ v, vs[i]? = some v ∧ argR K W S H gv i v r
theorem nodup_map_inj {α β : Type} {f : α → β} : ∀ {l : List α}, (l.map f).Nodup → ∀ {a b : α}, a ∈ l → b ∈ l → f a = f b → a = b
  | [], _, _, _, h, _, _ => by cases h
  | x :: l, n, a, b, h1, h2, e => by
    obtain ⟨n1, n2⟩ := List.nodup_cons.mp (show (f x :: l.map f).Nodup from n)
    rcases List.mem_cons.mp h1 with q1 | q1
    · rcases List.mem_cons.mp h2 with q2 | q2
      · rw [q1, q2]
      · exact absurd (List.mem_map.mpr ⟨b, q2, by rw [← e, q1]⟩) n1
    · rcases List.mem_cons.mp h2 with q2 | q2
      · exact absurd (List.mem_map.mpr ⟨a, q1, by rw [e, q2]⟩) n1
      · exact nodup_map_inj n2 q1 q2 e
def outsOk (K : KW) (S H : Hp) (gv : GV) (os : List (Option PyData)) : Prop := ∀ (j : Nat) (p : Nat × Addr) x, gv[j]? = some p → os[j]? = some (some x) → S p.2 = none ∧ OwnAt K S H p.2 x
/-- what a def hands back -/
def RvM (K : KW) (W : List Comp) (gv : GV) (os : List (Option PyData)) (H S' H' : Hp) (v : V) : Rv → Prop
  | .o x => ∃ p, v = .ref p ∧ (H p = none ∨ gvA gv p) ∧ S' p = none ∧ OwnAt K S' H' p x ∧ ∀ (j : Nat) (q : Nat × Addr) y, gv[j]? = some q → os[j]? = some (some y) → q.2 ≠ p
  | r => RvS K W S' v r
structure StpM (T : List NTab) (W : List Comp) (gv : GV) (S H S' H' : Hp) : Prop where
  sm : SmM T (fun a => muW W a ∨ gvA gv a) H H'
  ss : ExtN S S'
  sub : ∀ a o, S' a = some o → H' a = some o
  sep : ∀ a, H a ≠ none → S a = none → ¬ gvA gv a → S' a = none
  kp : ∀ c ∈ W, c.κ H'
  nt : ∀ a, gvA gv a → S' a = none → ∃ o, H' a = some o ∧ noT o
/-- what is given: apart from the shared things, from the things of W, from each other -/
structure GvOk (W : List Comp) (S H : Hp) (gv : GV) : Prop where
  hd : ∀ p ∈ gv, S p.2 = none ∧ ¬ muW W p.2 ∧ H p.2 ≠ none
  nd : (gv.map (·.2)).Nodup
  ni : (gv.map (·.1)).Nodup
theorem GvOk.nil {W : List Comp} {S H : Hp} : GvOk W S H [] := ⟨(fun p h => by cases h), .nil, .nil⟩
theorem GvOk.fn {W : List Comp} {S H : Hp} {gv : GV} (g : GvOk W S H gv) : ∀ {i j : Nat} {a : Addr}, (i, a) ∈ gv → (j, a) ∈ gv → i = j := fun {i j a} h1 h2 => by
  have q := nodup_map_inj g.nd h1 h2 rfl
  exact congrArg Prod.fst q
theorem GvOk.fa {W : List Comp} {S H : Hp} {gv : GV} (g : GvOk W S H gv) : ∀ {i : Nat} {a b : Addr}, (i, a) ∈ gv → (i, b) ∈ gv → a = b := fun {i a b} h1 h2 => by
  have q := nodup_map_inj g.ni h1 h2 rfl
  exact congrArg Prod.snd q
def spM (T : List NTab) (K : KW) (n : Nat) (ios : List Nat) (tf : List Rv → (Rv → List (Option PyData) → Prop) → Prop) : Sp := fun vs H Q _ => ∃ S rs R W gv, vs.length = n ∧ Sub S H ∧ TabsN T H ∧ Wf W S H ∧ gv.map (·.1) = ios ∧ GvOk W S H gv ∧ argsR K W S H gv vs rs ∧ tf rs R ∧
  ∀ r os v S' H', R r os → StpM T W gv S H S' H' → RvM K W gv os H S' H' v r → outsOk K S' H' gv os → Q v H'
def defM (n : Nat) (ios : List Nat) (t : TSD) : List Rv → (Rv → List (Option PyData) → Prop) → Prop := fun rs R => t { nx := fun E => R (.d .none) (outsE E ios), rt := fun r E => R r (outsE E ios) } (rs.map some ++ List.replicate (n - rs.length) none)
theorem ng_of {B : Bas} {ios : List Nat} (h : B.gv.map (·.1) = ios) (i : Nat) (hi : i ∉ ios) : ∀ a, (i, a) ∉ B.gv := fun a m => hi (by rw [← h]; exact List.mem_map.mpr ⟨_, m, rfl⟩)
/-- .. that may raise -/
def spMX (T : List NTab) (K : KW) (n : Nat) (ios : List Nat) (tf : List Rv → (Rv → List (Option PyData) → Prop) → (Addr → List (Str × PyData) → List (Option PyData) → Prop) → Prop) : Sp := fun vs H Q E => ∃ S rs R Rx W gv, vs.length = n ∧ Sub S H ∧ TabsN T H ∧ Wf W S H ∧ gv.map (·.1) = ios ∧ GvOk W S H gv ∧ argsR K W S H gv vs rs ∧ tf rs R Rx ∧
  (∀ r os v S' H', R r os → StpM T W gv S H S' H' → RvM K W gv os H S' H' v r → outsOk K S' H' gv os → Q v H') ∧
  ∀ C fs os d S' H', Rx C fs os → StpM T W gv S H S' H' → ExcD K S' d fs → outsOk K S' H' gv os → E (.ref C) d H'
def defMX (n : Nat) (ios : List Nat) (t : TSD) : List Rv → (Rv → List (Option PyData) → Prop) → (Addr → List (Str × PyData) → List (Option PyData) → Prop) → Prop := fun rs R Rx => t { nx := fun E => R (.d .none) (outsE E ios), rt := fun r E => R r (outsE E ios), rs := fun C fs E => Rx C fs (outsE E ios) } (rs.map some ++ List.replicate (n - rs.length) none)
theorem enterMX {K : KW} {T : List NTab} {N ps : List Str} {t : TSD} {ios : List Nat} {vs : List V} {H : Hp} {Q : VK} {E : XK} (hN : ps.length ≤ N.length) (h : spMX T K ps.length ios (defMX N.length ios t) vs H Q E) :
    ∃ B : Bas, B.K = K ∧ B.T = T ∧ B.gv.map (·.1) = ios ∧ B.wx = (fun cls d _ H' => E cls d H') ∧ liftS B t { nx := fun _ H' => Q .non H', rt := Q } (L2.start N vs) H := by
    obtain ⟨S0, rs, R, Rx, W, gv, hl, sub, tb, wf, eio, go, ⟨al, ar⟩, ht, k, kx⟩ := h
    refine ⟨⟨T, K, H, S0, W, gv, fun cls d _ H' => E cls d H'⟩, rfl, rfl, eio, rfl, ?_⟩
    have hrs : rs.length = ps.length := by rw [← al]; exact hl
    have dec : ∀ a, Decidable (muW W a) := fun a => Classical.propDecidable _
    have dec2 : ∀ a, Decidable (gvA gv a) := fun a => Classical.propDecidable _
    let own0 : Owns := fun a => if muW W a then some .mu else if h : gvA gv a then some (.sl h.choose) else if (H a).isSome && (S0 a).isNone then some .fr else none
    have o_def : ∀ a, own0 a = if muW W a then some .mu else if h : gvA gv a then some (.sl h.choose) else if (H a).isSome && (S0 a).isNone then some .fr else none := fun a => rfl
    have gh : ∀ a, gvA gv a → S0 a = none ∧ ¬ muW W a ∧ H a ≠ none := fun a ⟨i, m⟩ => go.hd _ m
    have o_gv : ∀ i a, (i, a) ∈ gv → own0 a = some (.sl i) := fun i a m => by
      have g : gvA gv a := ⟨i, m⟩
      rw [o_def, if_neg (gh a g).2.1, dif_pos g]
      exact congrArg (fun z => some (Ow.sl z)) (go.fn g.choose_spec m)
    have o_none : ∀ a o, S0 a = some o → own0 a = none := fun a o e => by
      have nm : ¬ muW W a := fun z => by have := (wf.hs a z).1; rw [e] at this; cases this
      have ng : ¬ gvA gv a := fun z => by have := (gh a z).1; rw [e] at this; cases this
      rw [o_def, if_neg nm, dif_neg ng, e]
      simp
    have o_fr : ∀ a, H a ≠ none → S0 a = none → ¬ (muW W a ∨ gvA gv a) → own0 a = some .fr := fun a h1 h2 nm => by
      rw [o_def, if_neg (fun z => nm (.inl z)), dif_neg (fun z => nm (.inr z)), h2]
      cases e : H a with
      | none => exact absurd e h1
      | some o => rfl
    have o_mu : ∀ a, muW W a → own0 a = some .mu := fun a m => by rw [o_def, if_pos m]
    have eh : hid own0 H = S0 := by
      funext a
      cases e : S0 a with
      | some o => rw [hid_no (o_none a o e)]; exact sub a o e
      | none =>
        by_cases nm : muW W a
        · exact hid_own (o_mu a nm)
        · by_cases ng : gvA gv a
          · obtain ⟨i, m⟩ := ng
            exact hid_own (o_gv i a m)
          · cases e2 : H a with
            | none =>
              unfold hid
              rw [e2]
              cases (own0 a).isSome <;> rfl
            | some o => exact hid_own (o_fr a (by rw [e2]; nofun) e fun z => z.elim nm ng)
    have rep : Rep ⟨T, K, H, S0, W, gv, fun cls d _ H' => E cls d H'⟩ own0 (L2.start N vs) H (rs.map some ++ List.replicate (N.length - rs.length) none) := by
      have sv : ∀ {i : Nat} {v : V}, vs[i]? = some v → (L2.start N vs)[i]? = some (some v) := fun {i v} h => by
        unfold L2.start
        have hi : i < vs.length := (List.getElem?_eq_some_iff.mp h).1
        rw [List.getElem?_append_left (by simpa using hi), List.getElem?_map, h]
        rfl
      have cut : ∀ {i : Nat} {r : Rv}, (rs.map some ++ List.replicate (N.length - rs.length) none)[i]? = some (some r) → rs[i]? = some r := fun {i r} e => by
        by_cases hi : i < rs.length
        · rw [List.getElem?_append_left (by simpa using hi), List.getElem?_map] at e
          cases e2 : rs[i]? with
          | none => rw [e2] at e; cases e
          | some r' =>
            rw [e2] at e
            simpa using e
        · rw [List.getElem?_append_right (by simpa using hi), List.getElem?_replicate] at e
          split at e <;> cases e
      refine ⟨by unfold L2.start; rw [List.length_append, List.length_append, List.length_map, List.length_map, List.length_replicate, List.length_replicate, al], fun a e => ?_, SmM.refl, by rw [eh]; exact .refl _, tb, o_fr, fun a o e => ?_, ⟨o_mu, wf.kp, wf.dj, fun a w e => ?_⟩, fun i r e => ?_, fun i a m x e => ?_⟩
      · have nm : ¬ muW W a := fun z => (wf.hs a z).2 e
        have ng : ¬ gvA gv a := fun z => (gh a z).2.2 e
        rw [o_def, if_neg nm, dif_neg ng, e]
        rfl
      · rw [o_def] at e
        split at e
        · exact .inr (.inl (Option.some.inj e).symm)
        · split at e
          · rename_i g
            exact .inr (.inr (.inr g))
          · split at e
            · exact .inl (Option.some.inj e).symm
            · cases e
      · rw [o_def] at e
        split at e
        · rename_i m; exact .inl m
        · split at e
          · rename_i g
            obtain ⟨o, ho⟩ := Option.ne_none_iff_exists'.mp (gh a g).2.2
            exact .inr ⟨o, ho, wf.nt a o ho (gh a g).1⟩
          · split at e
            · rename_i q
              rw [Bool.and_eq_true] at q
              obtain ⟨o, ho⟩ := Option.isSome_iff_exists.mp q.1
              exact .inr ⟨o, ho, wf.nt a o ho (Option.isNone_iff_eq_none.mp q.2)⟩
            · cases e
      · obtain ⟨v, h1, h2⟩ := ar i r (cut e)
        refine ⟨v, sv h1, ?_⟩
        cases r with
        | o y =>
          obtain ⟨a, rfl, m, q⟩ := h2
          exact ⟨a, rfl, o_gv i a m, by rw [eh]; exact q⟩
        | d y => exact RvAt.of (K := K) (r := .d y) (by rw [eh]; exact h2)
        | a φ => exact RvAt.of (K := K) (r := .a φ) (by rw [eh]; exact h2)
        | ob C fs => exact RvAt.of (K := K) (r := .ob C fs) (by rw [eh]; exact h2)
        | m c => exact h2
      · obtain ⟨v, h1, h2⟩ := ar i _ (cut e)
        obtain ⟨b, rfl, m2, q⟩ := h2
        rw [sv h1, go.fa m m2]
    have outs : ∀ {own' : Owns} {E' : EnvD} {σ' : L2.St} {H' : Hp}, Rep ⟨T, K, H, S0, W, gv, fun cls d _ H' => E cls d H'⟩ own' σ' H' E' → ∀ (j : Nat) (p : Nat × Addr) x, gv[j]? = some p → (outsE E' ios)[j]? = some (some x) → own' p.2 = some (.sl p.1) ∧ OwnAt K (hid own' H') H' p.2 x := fun {own' E' σ' H'} rep' j p x h1 h2 => by
      obtain ⟨i, a⟩ := p
      have hio : ios[j]? = some i := by rw [← eio, List.getElem?_map, h1]; rfl
      unfold outsE at h2
      rw [List.getElem?_map, hio] at h2
      have h2 : outE E' i = some x := by simpa using h2
      unfold outE at h2
      split at h2
      · rename_i y hy
        cases h2
        have hp := rep'.pin i a (List.mem_of_getElem? h1) _ hy
        obtain ⟨v2, e1, b, rfl, w2, q⟩ := rep'.sl i _ hy
        rw [hp] at e1
        cases e1
        exact ⟨w2, q⟩
      · cases h2
    have stp : ∀ {own' : Owns} {E' : EnvD} {σ' : L2.St} {H' : Hp}, Rep ⟨T, K, H, S0, W, gv, fun cls d _ H' => E cls d H'⟩ own' σ' H' E' → StpM T W gv S0 H (hid own' H') H' := fun {own' E' σ' H'} rep' => by
      refine ⟨rep'.bs, rep'.ss, hid_sub, fun a h1 h2 ng => ?_, rep'.wd.kp, fun a g hs => ?_⟩
      · by_cases nm : muW W a
        · exact hid_own (rep'.wd.tg a nm)
        · exact hid_own (rep'.fr a h1 h2 fun z => z.elim nm ng)
      · have ha : H' a ≠ none := fun z => (gh a g).2.2 (rep'.bs.nn a z)
        cases e : own' a with
        | none => rw [hid_no e] at hs; exact absurd hs ha
        | some w =>
          rcases rep'.wd.hl a w e with m | q
          · exact absurd m (gh a g).2.1
          · exact q
    have fin : ∀ r own' E' σ' v H', R r (outsE E' ios) → RvAt K W own' H' .tmp v r → Rep ⟨T, K, H, S0, W, gv, fun cls d _ H' => E cls d H'⟩ own' σ' H' E' → Q v H' := fun r own' E' σ' v H' hr ra rep' => by
      refine k r (outsE E' ios) v (hid own' H') H' hr (stp rep') ?_ fun j p x h1 h2 => ⟨hid_own (outs rep' j p x h1 h2).1, (outs rep' j p x h1 h2).2⟩
      cases r with
      | o y =>
        obtain ⟨p, e1, e2, q⟩ := ra
        refine ⟨p, e1, ?_, hid_own e2, q, fun j q2 y2 h1 h2 z => ?_⟩
        · rcases rep'.nw p _ e2 with z | z | z
          · cases z
          · cases z
          · exact z
        · have := (outs rep' j q2 y2 h1 h2).1
          rw [z, e2] at this
          cases this
      | d y => exact ra
      | a φ => exact ra
      | ob C fs => exact ra
      | m c => exact ra
    exact ⟨own0, _, _, rep, ht, fun own' E' σ' H' q _ rep' => fin (.d .none) own' E' σ' .non H' q .non rep', fun r own' E' σ' v H' q ra rep' => fin r own' E' σ' v H' q ra rep', fun _ _ _ _ q => q.elim, fun _ _ _ _ q => q.elim, fun C fs own' E' σ' d H' q _ x rep' => kx C fs (outsE E' ios) d (hid own' H') H' q (stp rep') x fun j p y h1 h2 => ⟨hid_own (outs rep' j p y h1 h2).1, (outs rep' j p y h1 h2).2⟩⟩
theorem enterM {K : KW} {T : List NTab} {N ps : List Str} {t : TSD} {ios : List Nat} {vs : List V} {H : Hp} {Q : VK} {E : XK} (hN : ps.length ≤ N.length) (h : spM T K ps.length ios (defM N.length ios t) vs H Q E) :
    ∃ B : Bas, B.K = K ∧ B.T = T ∧ B.gv.map (·.1) = ios ∧ liftS B t { nx := fun _ H' => Q .non H', rt := Q } (L2.start N vs) H := by
  obtain ⟨S0, rs, R, W, gv, hl, sub, tb, wf, eio, go, ar, ht, k⟩ := h
  obtain ⟨B, e1, e2, e3, _, q⟩ := enterMX (t := t) (E := fun _ _ _ => False) hN ⟨S0, rs, R, fun _ _ _ => False, W, gv, hl, sub, tb, wf, eio, go, ar, ht, k, fun _ _ _ _ _ _ z => z.elim⟩
  exact ⟨B, e1, e2, e3, q⟩
theorem fnokM {K : KW} {mg : Str → Option Value} {base : Heap} {T : List NTab} {x qual : Str} {st : Stmt} {f : Addr} {fd : FuncData} {N ps : List Str} {k : Nat} {t : TSD} {ios : List Nat} (F : L2.Fun K x qual st f fd) (S : FnScope N ps (defScope st))
    (hb : ∀ (cdv : Value) (A : Around) (outer : List Env) (s : Shared) (H : Hp) (E : XK) (B : Bas), B.K = K → B.T = T → B.gv.map (·.1) = ios → Room k (A.deeper (envOfC qual (defScope st) s.heap.objs.size f cdv)) → PSs (cxOf CX0 K.P K.w K.K mg base N qual (defScope st) f cdv A outer s H E).nox (defBody st) (liftS B t)) :
    FnOk K.P K.w K.K mg base CX0 (k + 1) f fd ps (spM T K ps.length ios (defM N.length ios t)) := by
  refine F.ok S (fun vs H Q E h => ?_) (fun cdv A outer s H vs Q E hr h => ?_)
  · obtain ⟨_, _, _, _, _, hl, _⟩ := h
    exact hl
  · have hN : ps.length ≤ N.length := by
      have := congrArg List.length S.pre
      rw [List.length_take] at this
      omega
    obtain ⟨B, e1, e2, e3, q⟩ := enterM hN h
    exact ⟨_, hb cdv A outer s H E B e1 e2 e3 hr, q⟩
theorem fnokMX {K : KW} {mg : Str → Option Value} {base : Heap} {T : List NTab} {x qual : Str} {st : Stmt} {f : Addr} {fd : FuncData} {N ps : List Str} {k : Nat} {t : TSD} {ios : List Nat} (F : L2.Fun K x qual st f fd) (S : FnScope N ps (defScope st))
    (hb : ∀ (cdv : Value) (A : Around) (outer : List Env) (s : Shared) (H : Hp) (E : XK) (B : Bas), B.K = K → B.T = T → B.gv.map (·.1) = ios → Takes (cxOf (L2.CX K.P K.w) K.P K.w K.K mg base N qual (defScope st) f cdv A outer s H E) B.wx → Room k (A.deeper (envOfC qual (defScope st) s.heap.objs.size f cdv)) → PSs (cxOf (L2.CX K.P K.w) K.P K.w K.K mg base N qual (defScope st) f cdv A outer s H E) (defBody st) (liftS B t)) :
    FnOk K.P K.w K.K mg base (L2.CX K.P K.w) (k + 1) f fd ps (spMX T K ps.length ios (defMX N.length ios t)) := by
  refine F.okX S (fun vs H Q E h => ?_) (fun cdv A outer s H vs Q E hr h => ?_)
  · obtain ⟨_, _, _, _, _, _, hl, _⟩ := h
    exact hl
  · have hN : ps.length ≤ N.length := by
      have := congrArg List.length S.pre
      rw [List.length_take] at this
      omega
    obtain ⟨B, e1, e2, e3, e4, q⟩ := enterMX hN h
    exact ⟨_, hb cdv A outer s H E B e1 e2 e3 (by rw [e4]; exact takes_of rfl rfl rfl rfl) hr, q⟩
theorem pairsR {K : KW} {W : List Comp} {S H : Hp} : ∀ {vs : List V} {rs : List Rv}, Paired (RvS K W S) vs rs → argsR K W S H [] vs rs := fun {vs rs} p => ⟨pairLen p, fun i r e => by
  obtain ⟨v, h1, h2⟩ := pairGet p e
  refine ⟨v, h1, ?_⟩
  cases r with
  | o y => exact h2.elim
  | _ => exact h2⟩
theorem fnok {K : KW} {mg : Str → Option Value} {base : Heap} {T : List NTab} {x qual : Str} {st : Stmt} {f : Addr} {fd : FuncData} {N ps : List Str} {k : Nat} {t : TSD} (F : L2.Fun K x qual st f fd) (S : FnScope N ps (defScope st))
    (hb : ∀ (cdv : Value) (A : Around) (outer : List Env) (s : Shared) (H : Hp) (E : XK) (B : Bas), B.K = K → B.T = T → B.gv.map (·.1) = [] → Room k (A.deeper (envOfC qual (defScope st) s.heap.objs.size f cdv)) → PSs (cxOf CX0 K.P K.w K.K mg base N qual (defScope st) f cdv A outer s H E).nox (defBody st) (liftS B t)) :
    FnOk K.P K.w K.K mg base CX0 (k + 1) f fd ps (spT T K ps.length (defT N.length t)) := (fnokM (ios := []) F S hb).imp fun vs H Q E h => by
  obtain ⟨S0, rs, R, W, hl, sub, tb, wf, pr, ht, k⟩ := h
  refine ⟨S0, rs, fun r _ => R r, W, [], hl, sub, tb, wf, rfl, .nil, pairsR pr, ht, fun r os v S' H' hr st rn _ => ?_⟩
  have ng : ∀ a, ¬ gvA [] a := fun a ⟨i, m⟩ => by cases m
  refine k r v S' H' hr ⟨st.sm.up fun a m => m.elim id fun z => (ng a z).elim, st.ss, st.sub, fun a h1 h2 => st.sep a h1 h2 (ng a), st.kp⟩ ?_
  cases r with
  | o y =>
    obtain ⟨p, e1, e2, e3, e4, _⟩ := rn
    exact ⟨p, e1, e2.resolve_right (ng p), e3, e4⟩
  | _ => exact rn
section
variable {X : Cx} {B : Bas} {a b c e : Expr} {rest : List Expr} {es : List Expr} {ta tb t te ti : TV} {ts : TVs} {tA tB' : TTd} {pos : Pos}
/-! ### calls of the module's defs -/
theorem Rep.wf {own : Owns} {σ : L2.St} {H : Hp} {E : EnvD} (R : Rep B own σ H E) : Wf B.W (hid own H) H := ⟨fun a m => ⟨hid_own (R.wd.tg a m), fun z => by have := R.al a z; rw [R.wd.tg a m] at this; cases this⟩, R.wd.kp, R.wd.dj, fun a o ho hs => by
  cases e : own a with
  | none => rw [hid_no e, ho] at hs; cases hs
  | some w =>
    rcases R.wd.hl a w e with ⟨c, hc, m⟩ | ⟨o', h1, h2⟩
    · exact c.nt H a o (R.wd.kp c hc) m ho
    · rw [ho] at h1; cases h1; exact h2⟩
def dCal (n : Nat) (tf : List Rv → (Rv → Prop) → Prop) (ts : TVs) : TV := fun E R => ts E fun rs E1 => rs.length = n ∧ tf rs fun r => R r E1
theorem ev_cal {j k n : Nat} {x : Str} {ps : List Str} {p : Pos} {tf : List Rv → (Rv → Prop) → Prop} (C : Cal X.prog X.w X.K X.mg X.base k x ps (spT B.T B.K n tf)) (hk : k ≤ j) (hr : Room j X.A) (hg : Gl X x) (ha : PA X (e :: es) (liftA B ts)) (hdb : (x == ("__debug__" : Str)) = false := by decide)
    (he : starEach (e :: es) X.env = (false, eval e X.env) :: starEach es X.env := by rfl) (hpl : (backTo pos (starEach es X.env)).any (·.1) = false := by rfl) : PE X (.Call (.Name x p) (e :: es) [] pos) (liftE B (dCal n tf ts)) := PE_mono (pe_cal C hk hr hg ha hdb he hpl) fun σ H Q hq => by
  obtain ⟨own, E, R, rep, ht, k⟩ := hq
  refine ⟨own, E, _, rep, ht, fun rs E1 own1 vs H1 q1 ev1 rs1 rep1 => ?_⟩
  refine ⟨hid own1 H1, rs, _, B.W, by rw [List.append_nil, pairLen rs1]; exact q1.1, hid_sub, rep1.tb, rep1.wf, by rw [List.append_nil]; exact rs1, q1.2, fun r v S' H' hr st rn => ?_⟩
  obtain ⟨own3, rep3, ev3, ra⟩ := rep1.resW st rn
  exact k r E1 own3 v H' hr (ev1.trans ev3) ra rep3
/-! ### len, all, any, list, tuple -/
def rLenA (K : KW) : List V → Hp → VK → Prop := fun xs H Q => (∃ p ys, xs = [.ref p] ∧ (SqL K H p ys ∨ SqT K H p ys) ∧ Q (.int ys.length) H) ∨ (∃ z, xs = [.str z] ∧ z.length ≤ sizeLine ∧ Q (.int z.length) H) ∨ (∃ a kvs, xs = [.ref a] ∧ Rd H a (.dK kvs) ∧ Q (.int kvs.length) H) ∨ ∃ a es, xs = [.ref a] ∧ NAt K.P K.w H a es ∧ KeysAt K.K H es ∧ Q (.int es.length) H
theorem call_lenRd : CallR X (.builtin "len") (fun xs H Q => ∃ a kvs, xs = [V.ref a] ∧ Rd H a (.dK kvs) ∧ Q (.int kvs.length) H) := by
  intro pins s σ H xs us Q I r h
  obtain ⟨a, kvs, rfl, ha, q⟩ := h
  obtain ⟨u, rfl, ru⟩ := vals1 r
  cases ru
  exact d_len I ha fun t s' I' => ⟨.int kvs.length, H, I', ⟨t, rfl⟩, q⟩
theorem call_lenN : CallR X (.builtin "len") (fun xs H Q => ∃ a es, xs = [V.ref a] ∧ NAt X.prog X.w H a es ∧ KeysAt X.K H es ∧ Q (.int es.length) H) := by
  intro pins s σ H xs us Q I r h
  obtain ⟨a, es, rfl, ha, hk, q⟩ := h
  obtain ⟨u, rfl, ru⟩ := vals1 r
  cases ru
  obtain ⟨z, hd, ys, rel, hm⟩ := nd_at I ha hk
  have hl := Paired.length rel
  rw [sizeLine_eq] at z
  refine call_len_dictH hd hm (by omega) ?_
  rw [← hl]
  exact ⟨.int ((es.length : Nat) : Int), H, I.tok _, ⟨_, rfl⟩, q⟩
theorem call_lenA : CallR X (.builtin "len") (rLenA X.kw) := call_len_seq.or (call_len_str.or (call_lenRd.or call_lenN))
def gLen (ds : List PyData) (k : Rv → Prop) : Prop := match ds with
  | [.list xs] => k (.d (.int xs.length))
  | [.tuple xs] => k (.d (.int xs.length))
  | [.str z] => z.length ≤ sizeLine ∧ k (.d (.int z.length))
  | [.dict xs] => k (.d (.int xs.length))
  | _ => False
theorem cg_one {S : Hp} {vs : List V} {d : PyData} (h : DxAll B.K S vs [d]) : ∃ v, vs = [v] ∧ Dx B.K S v d := by
  cases h with
  | cons h r =>
    cases r
    exact ⟨_, rfl, h⟩
theorem cg_len : CallG B (rLenA B.K) gLen := fun S H vs ds k Q s hall g f => by
  rcases ds with _ | ⟨d, _ | ⟨d2, r⟩⟩
  · exact g.elim
  · obtain ⟨v, rfl, hd⟩ := cg_one hall
    cases hd with
    | @lst a xs ds h r => exact .inl ⟨a, xs, rfl, .inl (sqL_sub s h), by rw [r.len]; exact fin_d s f g (.int _)⟩
    | @tup a xs ds h r => exact .inl ⟨a, xs, rfl, .inr (sqT_sub s h), by rw [r.len]; exact fin_d s f g (.int _)⟩
    | str z => exact .inr (.inl ⟨z, rfl, g.1, fin_d s f g.2 (.int _)⟩)
    | @dct a kvs ds h n r => exact .inr (.inr (.inl ⟨a, kvs, rfl, .inl (s _ _ h), by rw [r.len]; exact fin_d s f g (.int _)⟩))
    | @dcn a xs ds h ne n r => exact .inr (.inr (.inr ⟨a, xs, rfl, .inl (s _ _ h), (DxN.sm (ex_sub s) r).keys, by rw [r.len]; exact fin_d s f g (.int _)⟩))
    | _ => exact g.elim
  · cases d <;> exact g.elim
def boolsOf : List PyData → Option (List Bool)
  | [] => some []
  | .bool b :: r => (boolsOf r).map (b :: ·)
  | _ => none
theorem bools_da {S : Hp} : ∀ {vs : List V} {ds : List PyData} {bs : List Bool}, DxAll B.K S vs ds → boolsOf ds = some bs → vs = bs.map V.bl
  | _, _, _, .nil, e => by cases e; rfl
  | _, _, _, .cons h r, e => by
    cases h with
    | bl b =>
      unfold boolsOf at e
      cases e2 : boolsOf _ with
      | none => rw [e2] at e; cases e
      | some bs =>
        rw [e2] at e
        cases e
        rw [bools_da r e2]
        rfl
    | _ => cases e
def gAll (ds : List PyData) (k : Rv → Prop) : Prop := match ds with
  | [.list xs] => match boolsOf xs with
    | some bs => k (.d (.bool (bs.all id)))
    | none => False
  | _ => False
def gAny (ds : List PyData) (k : Rv → Prop) : Prop := match ds with
  | [.list xs] => match boolsOf xs with
    | some bs => k (.d (.bool (bs.any id)))
    | none => False
  | _ => False
theorem cg_all : CallG B (rAll B.K) gAll := fun S H vs ds k Q s hall g f => by
  rcases ds with _ | ⟨d, _ | ⟨d2, r⟩⟩
  · exact g.elim
  · obtain ⟨v, rfl, hd⟩ := cg_one hall
    cases hd with
    | @lst a xs ds h r =>
      have g : (match boolsOf ds with | some bs => k (.d (.bool (bs.all id))) | none => False) := g
      cases e : boolsOf ds with
      | none => rw [e] at g; exact g.elim
      | some bs =>
        rw [e] at g
        exact ⟨a, bs, rfl, by rw [← bools_da r e]; exact sqL_sub s h, fin_d s f g (.bl _)⟩
    | _ => exact g.elim
  · cases d <;> exact g.elim
theorem cg_any : CallG B (rAny B.K) gAny := fun S H vs ds k Q s hall g f => by
  rcases ds with _ | ⟨d, _ | ⟨d2, r⟩⟩
  · exact g.elim
  · obtain ⟨v, rfl, hd⟩ := cg_one hall
    cases hd with
    | @lst a xs ds h r =>
      have g : (match boolsOf ds with | some bs => k (.d (.bool (bs.any id))) | none => False) := g
      cases e : boolsOf ds with
      | none => rw [e] at g; exact g.elim
      | some bs =>
        rw [e] at g
        exact ⟨a, bs, rfl, by rw [← bools_da r e]; exact sqL_sub s h, fin_d s f g (.bl _)⟩
    | _ => exact g.elim
  · cases d <;> exact g.elim
def gList (ds : List PyData) (k : Rv → Prop) : Prop := match ds with
  | [.list xs] => k (.o (.list xs))
  | [.tuple xs] => k (.o (.list xs))
  | _ => False
theorem cg_list : CallG B (fun xs H Q => ∃ p ys, xs = [.ref p] ∧ (SqL B.K H p ys ∨ SqT B.K H p ys) ∧ ∀ l, H l = none → Q (.ref l) (upd H l (.lst ys))) gList := fun S H vs ds k Q s hall g f => by
  rcases ds with _ | ⟨d, _ | ⟨d2, r⟩⟩
  · exact g.elim
  · obtain ⟨v, rfl, hd⟩ := cg_one hall
    cases hd with
    | @lst a xs ds h r => exact ⟨a, xs, rfl, .inl (sqL_sub s h), fin_l s f g r⟩
    | @tup a xs ds h r => exact ⟨a, xs, rfl, .inr (sqT_sub s h), fin_l s f g r⟩
    | _ => exact g.elim
  · cases d <;> exact g.elim
def gTuple (ds : List PyData) (k : Rv → Prop) : Prop := match ds with
  | [.list xs] => k (.d (.tuple xs))
  | [.tuple xs] => k (.d (.tuple xs))
  | _ => False
theorem cg_tuple : CallG B (fun xs H Q => ∃ p ys, xs = [.ref p] ∧ ((SqL B.K H p ys ∧ ∀ l, H l = none → Q (.ref l) (upd H l (.tup ys))) ∨ (SqT B.K H p ys ∧ Q (.ref p) H))) gTuple := fun S H vs ds k Q s hall g f => by
  rcases ds with _ | ⟨d, _ | ⟨d2, r⟩⟩
  · exact g.elim
  · obtain ⟨v, rfl, hd⟩ := cg_one hall
    cases hd with
    | @lst a xs ds h r => exact ⟨a, xs, rfl, .inl ⟨sqL_sub s h, fin_t s f g r⟩⟩
    | @tup a xs ds h r => exact ⟨a, xs, rfl, .inr ⟨sqT_sub s h, fin_d s f g (.tup h r)⟩⟩
    | _ => exact g.elim
  · cases d <;> exact g.elim
/-! ### isinstance -/
def tyD : PyData → Value
  | .none => .type "NoneType"
  | .bool _ => .type "bool"
  | .int _ => .type "int"
  | .str _ => .type "str"
  | .list _ => .type "list"
  | .tuple _ => .type "tuple"
  | .dict _ => .type "dict"
theorem tyX_lst {K : KW} {H : Hp} {a : Addr} {xs : List V} (h : SqL K H a xs) : TyX K H (.ref a) (.type "list") := by
  rcases h with (h | ⟨o, h⟩) | ⟨o, its, n, hk, hc, _⟩
  · exact .base (.lst h)
  · exact .base (.frz h)
  · exact .kList hk hc
theorem tyX_tup {K : KW} {H : Hp} {a : Addr} {xs : List V} (h : SqT K H a xs) : TyX K H (.ref a) (.type "tuple") := by
  rcases h with (h | ⟨o, h⟩) | ⟨o, its, n, hk, hc, _⟩
  · exact .base (.tup h)
  · exact .fTuple h
  · exact .kTuple hk hc
/-- no dict with tuples as keys -/
def nN : PyData → Bool
  | .dict kvs => !tkd kvs
  | _ => true
theorem Dx.tyX {K : KW} {H : Hp} {v : V} {d : PyData} (h : Dx K H v d) (hn : nN d = true) : TyX K H v (tyD d) := by
  cases h with
  | non => exact .base .non
  | bl b => exact .base (.bl b)
  | int i => exact .base (.int i)
  | str z => exact .base (.str z)
  | lst h _ => exact tyX_lst h
  | tup h _ => exact tyX_tup h
  | dct h _ _ => exact .base (.dK h)
  | dcn h ne n r =>
    exfalso
    cases r with
    | nil => exact ne rfl
    | cons h1 e _ _ _ =>
      have := nk_ref h1 e
      have hn : (!isTk _) = true := hn
      rw [this] at hn
      cases hn
/-- f tells of the data whether it is of the class (or of one of the classes) -/
def dIsi (f : PyData → Bool) (te : TV) : TV := fun E R => te E fun r E1 => r.toD (fun d E1 => nN d = true ∧ R (.d (.bool (f d))) E1) E1
def isStrD : PyData → Bool | .str _ => true | _ => false
def isTupD : PyData → Bool | .tuple _ => true | _ => false
def isLstD : PyData → Bool | .list _ => true | _ => false
def isBoolD : PyData → Bool | .bool _ => true | _ => false
def isIntD : PyData → Bool | .int _ => true | .bool _ => true | _ => false
theorem ev_isi {x : Str} {T : String} {p p2 : Pos} {f : PyData → Bool} (hK : X.K = B.K) (hm : X.mg "isinstance" = none) (hgl : Gl X "isinstance") (hT : PE X (.Name x p2) (tC (.ty T))) (hf : ∀ d, PySem.W.kitOne B.K (tyD d) (.type T) = some (f d)) (he : PE X e (liftE B te))
    (hs : starEach (e :: [.Name x p2]) X.env = (false, eval e X.env) :: starEach [.Name x p2] X.env := by rfl) (hs2 : starEach (.Name x p2 :: []) X.env = (false, eval (.Name x p2) X.env) :: starEach [] X.env := by rfl) (hpl : (backTo pos (starEach [.Name x p2] X.env)).any (·.1) = false := by rfl) :
    PE X (.Call (.Name "isinstance" p) [e, .Name x p2] [] pos) (liftE B (dIsi f te)) := PE_mono (pe_callB call_isi hgl hm (by decide +kernel) (pa_cons (ev_D he) (pa_cons hT pa_nil hs2) hs) (he := hs) (hpl := hpl)) fun σ H Q hq => by
  obtain ⟨own, E, R, rep, ht, k⟩ := hq
  refine ⟨own, E, _, rep, ht, fun d E1 own1 v H1 q1 ev1 da rep1 => ?_⟩
  exact ⟨_, _, tyD d, .type T, f d, rfl, .ty _, by rw [hK]; exact (da_sub hid_sub da).tyX q1.1, by rw [hK]; exact hf d, k _ E1 own1 _ H1 q1.2 ev1 (Dx.bl _) rep1⟩
theorem kI_str {K : KW} (d : PyData) : PySem.W.kitOne K (tyD d) (.type "str") = some (isStrD d) := by cases d <;> (simp only [tyD, isStrD]; exact kit_ty (by decide +kernel))
theorem kI_tup {K : KW} (d : PyData) : PySem.W.kitOne K (tyD d) (.type "tuple") = some (isTupD d) := by cases d <;> (simp only [tyD, isTupD]; exact kit_ty (by decide +kernel))
theorem kI_lst {K : KW} (d : PyData) : PySem.W.kitOne K (tyD d) (.type "list") = some (isLstD d) := by cases d <;> (simp only [tyD, isLstD]; exact kit_ty (by decide +kernel))
theorem kI_bool {K : KW} (d : PyData) : PySem.W.kitOne K (tyD d) (.type "bool") = some (isBoolD d) := by cases d <;> (simp only [tyD, isBoolD]; exact kit_ty (by decide +kernel))
theorem kI_int {K : KW} (d : PyData) : PySem.W.kitOne K (tyD d) (.type "int") = some (isIntD d) := by cases d <;> (simp only [tyD, isIntD]; exact kit_ty (by decide +kernel))
theorem ev_isi2 {x y : Str} {T U : String} {p p2 p3 pt : Pos} {kk : Nat} {f g : PyData → Bool} (hK : X.K = B.K) (hm : X.mg "isinstance" = none) (hgl : Gl X "isinstance") (hT : PE X (.Name x p2) (tC (.ty T))) (hU : PE X (.Name y p3) (tC (.ty U))) (hf : ∀ d, PySem.W.kitOne B.K (tyD d) (.type T) = some (f d)) (hg : ∀ d, PySem.W.kitOne B.K (tyD d) (.type U) = some (g d)) (he : PE X e (liftE B te))
    (hs : starEach (e :: [.Tuple [.Name x p2, .Name y p3] kk pt]) X.env = (false, eval e X.env) :: starEach [.Tuple [.Name x p2, .Name y p3] kk pt] X.env := by rfl) (hs2 : starEach (.Tuple [.Name x p2, .Name y p3] kk pt :: []) X.env = (false, eval (.Tuple [.Name x p2, .Name y p3] kk pt) X.env) :: starEach [] X.env := by rfl)
    (hs3 : starEach (.Name x p2 :: [.Name y p3]) X.env = (false, eval (.Name x p2) X.env) :: starEach [.Name y p3] X.env := by rfl) (hs4 : starEach (.Name y p3 :: []) X.env = (false, eval (.Name y p3) X.env) :: starEach [] X.env := by rfl) (hpl : (backTo pos (starEach [.Tuple [.Name x p2, .Name y p3] kk pt] X.env)).any (·.1) = false := by rfl) :
    PE X (.Call (.Name "isinstance" p) [e, .Tuple [.Name x p2, .Name y p3] kk pt] [] pos) (liftE B (dIsi (fun d => f d || g d) te)) := PE_mono (pe_callB call_isiT hgl hm (by decide +kernel) (pa_cons (ev_D he) (pa_cons (pe_tup (pa_cons hT (pa_cons hU pa_nil hs4) hs3)) pa_nil hs2) hs) (he := hs) (hpl := hpl)) fun σ H Q hq => by
  obtain ⟨own, E, R, rep, ht, k⟩ := hq
  refine ⟨own, E, _, rep, ht, fun d E1 own1 v H1 q1 ev1 da rep1 => ⟨by show 2 ≤ sizeLine; decide, fun q nq => ?_⟩⟩
  have st : Stp B.T (hid own1 H1) H1 _ _ := Stp.newO (o := .tup [.ty T, .ty U]) hid_sub nq
  have rep2 := rep1.step st.sm
  refine ⟨_, q, _, tyD d, [.type T, .type U], f d || g d, rfl, upd_same, .cons (.ty _) (.cons (.ty _) .nil), by rw [hK]; exact ((da_sub hid_sub da).sm (ex_sub (Same.new nq))).tyX q1.1, ?_, k _ E1 own1 _ _ q1.2 (ev1.trans (.step st.sm.kp)) (Dx.bl _) rep2⟩
  rw [hK]
  refine kitAny_cons (hf d) (fun z => kitAny_cons (hg d) (fun z2 => ?_) fun z2 => ?_) fun z => ?_
  · rw [z, z2]; rfl
  · rw [z2]; simp
  · rw [z]; simp
end
end Kf

set_option Elab.async false
set_option linter.all false
set_option maxRecDepth 100000
set_option maxHeartbeats 2000000
namespace Kf
open PySem PySem.Spec PyProof.Rows L2 LamX NdefX
/-! ## one's own lists and dicts are changed -/
def isLD : HO → Prop
  | .lst _ => True
  | .dK _ => True
  | .ext _ => True
  | _ => False
theorem OwnAt.ld {K : KW} {S H : Hp} {a : Addr} {x : PyData} (h : OwnAt K S H a x) : ∃ o, H a = some o ∧ isLD o := by
  cases x with
  | list ds =>
    obtain ⟨xs, h1, h2⟩ := h
    exact ⟨_, h1, trivial⟩
  | dict ds =>
    rcases h with ⟨kvs, h1, h2⟩ | ⟨xs, h1, h2⟩ <;> exact ⟨_, h1, trivial⟩
  | _ => exact h.elim
/-- one's own dict without tuples as keys -/
theorem own_dk {K : KW} {S H : Hp} {a : Addr} {kvs : List (PyData × PyData)} (h : OwnAt K S H a (.dict kvs)) (hk : tkd kvs = false) : ∃ ks, H a = some (.dK ks) ∧ (ks.map (·.1)).Nodup ∧ DxKV K S ks kvs := by
  rcases h with h | ⟨xs, h1, ne, n, r⟩
  · exact h
  · cases r with
    | nil => exact absurd rfl ne
    | cons q1 e _ _ _ =>
      have := nk_ref q1 e
      have hk : isTk _ = false := hk
      rw [this] at hk
      cases hk
theorem own_nat {K : KW} {S H : Hp} {a : Addr} {kvs : List (PyData × PyData)} (h : OwnAt K S H a (.dict kvs)) (hk : kvs = [] ∨ tkd kvs = true) : ∃ xs, NAt K.P K.w H a xs ∧ (xs.map (·.1)).Nodup ∧ DxN K S xs kvs := by
  rcases h with ⟨ks, h, n, r⟩ | ⟨xs, h1, ne, n, r⟩
  · cases r with
    | nil => exact ⟨[], .inr ⟨rfl, h⟩, .nil, .nil⟩
    | cons h1 r =>
      rename_i k _ _ _ _
      rcases hk with z | z
      · cases z
      · cases k <;> cases z
  · exact ⟨xs, .inl h1, n, r⟩
section
variable {B : Bas} {own : Owns} {σ : L2.St} {H : Hp} {E : EnvD}
theorem Rep.updSl {i : Nat} {a : Addr} {x xd' : PyData} {o' : HO} (R : Rep B own σ H E) (e : E[i]? = some (some (.o x))) (w : own a = some (.sl i)) (hv : σ[i]? = some (some (.ref a))) (q : OwnAt B.K (hid own H) H a x) (q' : OwnAt B.K (hid own H) (upd H a o') a xd') :
    Rep B own σ (upd H a o') (E.set i (some (.o xd'))) ∧ Evo own H own (upd H a o') := by
  have eh : hid own (upd H a o') = hid own H := by
    funext b
    by_cases z : b = a
    · subst z; rw [hid_own w, hid_own w]
    · unfold hid; rw [upd_ne z]
  have n0 : B.H0 a = none ∨ gvA B.gv a := by
    rcases R.nw a _ w with z | z | z
    · cases z
    · cases z
    · exact z
  have nm : ∀ b, own b = some .mu → b ≠ a := fun b hb z => by subst z; rw [w] at hb; cases hb
  have ho : ∀ o, H a = some o → (∀ ps, o ≠ .tbl ps) ∧ ∀ q, o ≠ CodeO a q := fun o eo => by
    cases x with
    | list ds =>
      obtain ⟨xs, h1, _⟩ := q
      rw [h1] at eo
      cases eo
      exact ⟨nofun, fun _ => lst_code⟩
    | dict ds =>
      rcases q with ⟨xs, h1, _⟩ | ⟨xs, h1, _⟩
      · rw [h1] at eo
        cases eo
        exact ⟨nofun, fun _ => dk_code⟩
      · rw [h1] at eo
        cases eo
        exact ⟨nofun, fun _ => nd_code⟩
    | _ => exact q.elim
  refine ⟨⟨by simp [R.len], fun b e => ?_, ⟨fun b u e hm n => ?_, fun b e => ?_, fun t => tabs_updN ho (R.bs.tb t)⟩, by rw [eh]; exact R.ss, tabs_updN ho R.tb, R.fr, R.nw, R.wd.ext (fun b hb => ⟨hb, fun o h _ => by rw [upd_ne (nm b hb)]; exact h⟩) (fun b w1 e => by
    by_cases z : b = a
    · subst z; exact .inl q'.ldT
    · exact .inr ⟨⟨w1, e⟩, fun o e n => ⟨o, by rw [upd_ne z]; exact e, n⟩⟩), fun j r er => ?_, fun j a' m y er => by
    rcases set_at er with ⟨rfl, e2⟩ | ⟨ne, e2⟩
    · exact R.pin _ a' m x e
    · exact R.pin j a' m y e2⟩, ⟨by rw [eh]; exact .refl _, fun b hb => ⟨hb, fun o e n => ?_⟩⟩⟩
  · by_cases z : b = a
    · subst z; rw [upd_same] at e; cases e
    · rw [upd_ne z] at e; exact R.al b e
  · rw [upd_ne (fun z => by
      subst z
      rcases n0 with n0 | n0
      · rw [n0] at e; cases e
      · exact hm (.inr n0))]
    exact R.bs.kp b u e hm n
  · by_cases z : b = a
    · subst z; rw [upd_same] at e; cases e
    · rw [upd_ne z] at e; exact R.bs.nn b e
  · rcases set_at er with ⟨rfl, e2⟩ | ⟨ne, e2⟩
    · cases e2
      exact ⟨_, hv, a, rfl, w, by rw [eh]; exact q'⟩
    · obtain ⟨v, h1, ra⟩ := R.sl j r e2
      refine ⟨v, h1, ?_⟩
      cases r with
      | o y =>
        obtain ⟨b, e1, w2, h3⟩ := ra
        have nb : b ≠ a := fun z => by
          subst z
          rw [w] at w2
          exact ne (Ow.sl.inj (Option.some.inj w2)).symm
        exact ⟨b, e1, w2, h3.sm (by rw [eh]; exact .refl _) (upd_ne nb)⟩
      | d y => exact RvS.sm (K := B.K) (W := B.W) (r := .d y) (by rw [eh]; exact .refl _) ra
      | a φ => exact RvS.sm (K := B.K) (W := B.W) (r := .a φ) (by rw [eh]; exact .refl _) ra
      | ob C fs => exact RvS.sm (K := B.K) (W := B.W) (r := .ob C fs) (by rw [eh]; exact .refl _) ra
      | m c => exact ra
  · rw [upd_ne (fun z => by subst z; rw [w] at hb; cases hb)]
    exact e
end
def OwnM (B : Bas) (r : V → List V → Hp → VK → Prop) (g : PyData → List PyData → (PyData → PyData → Prop) → Prop) : Prop := ∀ (S H : Hp) (a : Addr) (vs : List V) (xd : PyData) (ds : List PyData) (k : PyData → PyData → Prop) (Q : VK), Sub S H → OwnAt B.K S H a xd → DxAll B.K S vs ds → g xd ds k →
  (∀ rd v xd' o', k rd xd' → Dx B.K S v rd → OwnAt B.K S (upd H a o') a xd' → Q v (upd H a o')) → r (.ref a) vs H Q
def shT : String → PyData → Bool
  | "list", .list _ => true
  | "dict", .dict kvs => !tkd kvs
  | _, _ => false
theorem shT_ty {T : String} {x : PyData} {K : KW} {S H : Hp} {a : Addr} (h : shT T x = true) (q : OwnAt K S H a x) : tyV K T (.ref a) H := by
  unfold shT at h
  split at h
  · obtain ⟨xs, h1, _⟩ := q
    exact .inl ⟨rfl, xs, .of h1⟩
  · obtain ⟨kvs, h1, _⟩ := own_dk q (by simpa using h)
    exact .inr (.inr (.inl ⟨rfl, .inl ⟨kvs, h1⟩⟩))
  · cases h
def dOwnM (T : String) (g : PyData → List PyData → (PyData → PyData → Prop) → Prop) (i : Nat) (ts : TVs) : TV := fun E R => match E[i]? with
  | some (some (.o x0)) => shT T x0 = true ∧ ts E fun rs E1 => toDs rs fun ds => match E1[i]? with
    | some (some (.o xd)) => g xd ds fun rd xd' => R (.d rd) (E1.set i (some (.o xd')))
    | _ => False
  | _ => False
section
variable {X : Cx} {B : Bas} {a b c e : Expr} {rest : List Expr} {es : List Expr} {ta tb t te ti : TV} {ts : TVs} {tA tB' : TTd} {pos : Pos}
theorem ownE {T : String} {r : V → List V → Hp → VK → Prop} {g : PyData → List PyData → (PyData → PyData → Prop) → Prop} {i : Nat} (hK : X.K = B.K) (hm : OwnM B r g) {σ : L2.St} {H : Hp} {Q : VK} (hq : liftE B (dOwnM T g i ts) σ H Q) : tBM X.K T r (tVar i) (liftA B ts) σ H Q := by
  obtain ⟨own, E, R, rep, ht, k⟩ := hq
  unfold dOwnM at ht
  cases e : E[i]? with
  | none => rw [e] at ht; exact ht.elim
  | some w =>
    cases w with
    | none => rw [e] at ht; exact ht.elim
    | some r0 =>
      rw [e] at ht
      cases r0 with
      | o x0 =>
        obtain ⟨v, hv, p, rfl, hw, q0⟩ := rep.sl i _ e
        refine ⟨_, hv, by rw [hK]; exact shT_ty ht.1 q0, own, E, _, rep, ht.2, fun rs E1 own1 vs H1 q1 ev1 rs1 rep1 => ?_⟩
        unfold toDs at q1
        cases e1 : datas rs with
        | none => rw [e1] at q1; exact q1.elim
        | some ds =>
          rw [e1] at q1
          have q1 : (match E1[i]? with
            | some (some (.o xd)) => g xd ds fun rd xd' => R (.d rd) (E1.set i (some (.o xd')))
            | _ => False) := q1
          cases e2 : E1[i]? with
          | none => rw [e2] at q1; exact q1.elim
          | some w =>
            cases w with
            | none => rw [e2] at q1; exact q1.elim
            | some r1 =>
              rw [e2] at q1
              cases r1 with
              | o xd =>
                obtain ⟨v2, hv2, p2, e3, hw2, q2⟩ := rep1.sl i _ e2
                rw [hv] at hv2
                cases hv2
                cases e3
                refine hm (hid own1 H1) H1 p vs xd ds _ _ hid_sub q2 (datas_da rs1 e1) q1 fun rd v xd' o' hk hd q' => ?_
                obtain ⟨rep3, ev3⟩ := rep1.updSl e2 hw2 hv q2 q'
                exact k _ _ own1 v _ hk (ev1.trans ev3) (Dx.sm ev3.ex hd) rep3
              | d y => exact q1.elim
              | a φ => exact q1.elim
              | ob C fs => exact q1.elim
              | m c => exact q1.elim
      | d y => exact ht.elim
      | a φ => exact ht.elim
      | ob C fs => exact ht.elim
      | m c => exact ht.elim
theorem ev_ownM {T : String} {r : V → List V → Hp → VK → Prop} {g : PyData → List PyData → (PyData → PyData → Prop) → Prop} {i : Nat} (hK : X.K = B.K) (hm : OwnM B r g) (h : PE X e (tBM X.K T r (tVar i) (liftA B ts))) : PE X e (liftE B (dOwnM T g i ts)) := PE_mono h fun _ _ _ => ownE hK hm
theorem ev_ownM0 {T : String} {r : V → List V → Hp → VK → Prop} {g : PyData → List PyData → (PyData → PyData → Prop) → Prop} {i : Nat} (hK : X.K = B.K) (hm : OwnM B r g) (h : PE X e (tBM0 X.K T r (tVar i))) : PE X e (liftE B (dOwnM T g i dNil)) := PE_mono h fun σ H Q hq => by
  obtain ⟨v, hv, ht, own, E, R, rep, hl, k⟩ := ownE hK hm hq
  exact ⟨v, hv, ht, k [] E own [] H hl (Evo.refl _ _) .nil rep⟩
def gAppend (x : PyData) (ds : List PyData) (k : PyData → PyData → Prop) : Prop := match x with
  | .list xs => match ds with
    | [d] => xs.length < sizeLine ∧ k .none (.list (xs ++ [d]))
    | _ => False
  | _ => False
theorem om_append : OwnM B rAppend gAppend := fun S H a vs xd ds k Q s q hd g f => by
  cases xd with
  | list xs =>
    rcases ds with _ | ⟨d, _ | ⟨d2, r⟩⟩
    · exact g.elim
    · obtain ⟨v, rfl, hd1⟩ := cg_one hd
      obtain ⟨ys, h1, h2⟩ := q
      exact ⟨a, ys, v, rfl, rfl, h1, by rw [h2.len]; exact g.1, f .none .non _ _ g.2 .non ⟨_, upd_same, h2.app (.cons hd1 .nil)⟩⟩
    · exact g.elim
  | _ => exact g.elim
def gPop (x : PyData) (ds : List PyData) (k : PyData → PyData → Prop) : Prop := match x with
  | .list xs => match ds with
    | [] => match xs[xs.length - 1]? with
      | some d => k d (.list xs.dropLast)
      | none => False
    | _ => False
  | _ => False
theorem DxAll.dropLast {K : KW} {S : Hp} {xs : List V} {ds : List PyData} (h : DxAll K S xs ds) : DxAll K S xs.dropLast ds.dropLast := by
  rw [List.dropLast_eq_take, List.dropLast_eq_take, h.len]
  exact h.take _
theorem om_pop : OwnM B rPop gPop := fun S H a vs xd ds k Q s q hd g f => by
  cases xd with
  | list xs =>
    cases hd with
    | nil =>
      obtain ⟨ys, h1, h2⟩ := q
      have g : (match xs[xs.length - 1]? with | some d => k d (.list xs.dropLast) | none => False) := g
      cases e : xs[xs.length - 1]? with
      | none => rw [e] at g; exact g.elim
      | some d =>
        rw [e] at g
        obtain ⟨y, h3, h4⟩ := h2.getD e
        exact ⟨a, ys, y, rfl, rfl, h1, by rw [h2.len]; exact h3, f d y _ _ g h4 ⟨_, upd_same, h2.dropLast⟩⟩
    | cons _ _ => exact g.elim
  | _ => exact g.elim
def gPopAt (x : PyData) (ds : List PyData) (k : PyData → PyData → Prop) : Prop := match x with
  | .list xs => match ds with
    | [.int i] => (-(2 ^ 63) ≤ i ∧ i < 2 ^ 63) ∧ match seqIndex? i xs.length with
      | some j => match xs[j]? with
        | some d => k d (.list (xs.eraseIdx j))
        | none => False
      | none => False
    | _ => False
  | _ => False
theorem om_popAt : OwnM B rPopAt gPopAt := fun S H a vs xd ds k Q s q hd g f => by
  cases xd with
  | list xs =>
    rcases ds with _ | ⟨d, _ | ⟨d2, r⟩⟩
    · exact g.elim
    · obtain ⟨v, rfl, hd1⟩ := cg_one hd
      obtain ⟨ys, h1, h2⟩ := q
      cases hd1 with
      | int i =>
        obtain ⟨g1, g⟩ := (show (-(2 ^ 63) ≤ i ∧ i < 2 ^ 63) ∧ (match seqIndex? i xs.length with
          | some j => match xs[j]? with
            | some d => k d (.list (xs.eraseIdx j))
            | none => False
          | none => False) from g)
        cases e : seqIndex? i xs.length with
        | none => rw [e] at g; exact g.elim
        | some j =>
          rw [e] at g
          have g : (match xs[j]? with | some d => k d (.list (xs.eraseIdx j)) | none => False) := g
          cases e2 : xs[j]? with
          | none => rw [e2] at g; exact g.elim
          | some d =>
            rw [e2] at g
            obtain ⟨y, h3, h4⟩ := h2.getD e2
            exact ⟨a, ys, i, j, y, rfl, rfl, h1, g1.1, g1.2, by rw [h2.len]; exact e, h3, f d y _ _ g h4 ⟨_, upd_same, h2.erase j⟩⟩
      | _ => exact g.elim
    · cases d <;> exact g.elim
  | _ => exact g.elim
/-! ### x[i] = e -/
def putD (k : PyData) (v : PyData) : List (PyData × PyData) → List (PyData × PyData)
  | [] => [(k, v)]
  | (k', v') :: r => if keyB k' k then (k', v) :: r else (k', v') :: putD k v r
theorem DxKV.put {K : KW} {S : Hp} {v : V} {d : PyData} (hd : Dx K S v d) : ∀ {kvs : List (Key × V)} {ds : List (PyData × PyData)}, DxKV K S kvs ds → (kvs.map (·.1)).Nodup → ∀ k, DxKV K S (putK kvs k v) (putD (keyD k) d ds)
  | _, _, .nil, _, k => .cons hd .nil
  | _, _, .cons (k := k') (v := v') (kvs := kvs) (d := d') (ds := ds) h r, n, k => by
    obtain ⟨n1, n2⟩ := List.nodup_cons.mp (show (k' :: kvs.map (·.1)).Nodup from n)
    have ih := DxKV.put hd r n2 k
    unfold putD
    rw [keyB_eq]
    by_cases z : k' = k
    · subst z
      rw [if_pos (by simp)]
      have e : putK ((k', v') :: kvs) k' v = (k', v) :: kvs := by
        unfold putK
        rw [if_pos (by simp), List.map_cons, if_pos rfl]
        congr 1
        conv => rhs; rw [← List.map_id kvs]
        refine List.map_congr_left fun p hp => ?_
        have : p.1 ≠ k' := fun e => n1 (e ▸ List.mem_map_of_mem hp)
        rw [if_neg this]
        rfl
      rw [e]
      exact .cons hd r
    · rw [if_neg (by simp [z])]
      have e : putK ((k', v') :: kvs) k v = (k', v') :: putK kvs k v := by
        unfold putK
        rw [List.any_cons]
        by_cases hk : (kvs.any fun kv => decide (kv.1 = k)) = true
        · rw [if_pos (by rw [hk]; simp), if_pos hk, List.map_cons, if_neg z]
        · rw [if_neg (by simp at hk ⊢; exact ⟨z, hk⟩), if_neg hk]
          rfl
      rw [e]
      exact .cons h ih
theorem nd_put {kvs : List (Key × V)} (k : Key) (v : V) (n : (kvs.map (·.1)).Nodup) : ((putK kvs k v).map (·.1)).Nodup := by
  unfold putK
  split
  · have e : (kvs.map fun kv => if kv.1 = k then (kv.1, v) else kv).map (·.1) = kvs.map (·.1) := by
      rw [List.map_map]
      refine List.map_congr_left fun p _ => ?_
      show (if p.1 = k then (p.1, v) else p).1 = p.1
      split <;> rfl
    rw [e]
    exact n
  · rename_i h
    rw [List.map_append]
    refine nd_snoc n fun m => h ?_
    obtain ⟨p, hp, e⟩ := List.mem_map.mp m
    exact List.any_eq_true.mpr ⟨p, hp, decide_eq_true e⟩
def rSetA (K : KW) : TSet := fun o i v H Q => rSetL o i v H Q ∨ rSetD o i v H Q ∨ rSetN K.K K.P K.w o i v H Q
theorem set_all (hu : X.A.units + 65 < cLine) : PSet X (rSetA X.kw) := by
  intro pins s σ H o i v ov iv u Q I ro ri rv h
  rcases h with h | h | h
  · exact set_list pins s σ H o i v ov iv u Q I ro ri rv h
  · exact set_dict (by omega) pins s σ H o i v ov iv u Q I ro ri rv h
  · exact set_N hu pins s σ H o i v ov iv u Q I ro ri rv h
def setAt (x i d : PyData) (k : PyData → Prop) : Prop := match x with
  | .list xs => match i with
    | .int j => match ixN xs.length j with
      | some n => k (.list (xs.set n d))
      | none => False
    | _ => False
  | .dict kvs => kvs.length < sizeLine ∧ dKey i kvs (k (.dict (putD i d kvs))) fun nk => k (.dict (putT i nk d kvs))
  | _ => False
/-- x[i] = e, x one's own -/
def sSetIt (i : Nat) (ti te : TV) : TSD := fun D E => te E fun r E1 => r.toD (fun d E1 => match E1[i]? with
  | some (some (.o _)) => ti E1 fun r2 E2 => r2.toD (fun j E2 => match E2[i]? with
    | some (some (.o x)) => setAt x j d fun x' => D.nx (E2.set i (some (.o x')))
    | _ => False) E2
  | _ => False) E1
theorem own_same {own : Owns} {σ : L2.St} {H : Hp} {E : EnvD} (rep : Rep B own σ H E) {i : Nat} {x : PyData} (e : E[i]? = some (some (.o x))) : ∃ p, σ[i]? = some (some (.ref p)) ∧ own p = some (.sl i) ∧ OwnAt B.K (hid own H) H p x := by
  obtain ⟨v, hv, p, rfl, hw, q⟩ := rep.sl i _ e
  exact ⟨p, hv, hw, q⟩
theorem setIt_val {own : Owns} {H : Hp} {p : Addr} {x j d : PyData} {vj v : V} {k : PyData → Prop} {Q : Hp → Prop} (q : OwnAt B.K (hid own H) H p x) (hj : Dx B.K (hid own H) vj j) (hd : Dx B.K (hid own H) v d) (g : setAt x j d k) (f : ∀ x' o', k x' → OwnAt B.K (hid own H) (upd H p o') p x' → Q (upd H p o')) : rSetA B.K (.ref p) vj v H Q := by
  cases x with
  | list xs =>
    obtain ⟨ys, h1, h2⟩ := q
    cases hj with
    | int i =>
      have g : (match ixN xs.length i with | some n => k (.list (xs.set n d)) | none => False) := g
      cases e : ixN xs.length i with
      | none => rw [e] at g; exact g.elim
      | some n =>
        rw [e] at g
        exact .inl ⟨p, ys, i, n, rfl, rfl, h1, by rw [h2.len]; exact e, f _ _ g ⟨_, upd_same, h2.set hd n⟩⟩
    | _ => exact g.elim
  | dict kvs =>
    obtain ⟨g2, g⟩ := (show kvs.length < sizeLine ∧ dKey j kvs (k (.dict (putD j d kvs))) (fun nk => k (.dict (putT j nk d kvs))) from g)
    unfold dKey at g
    cases e : keyOf j with
    | none =>
      rw [e] at g
      obtain ⟨nk, ⟨t1, t2, t3, t4⟩, g⟩ := g
      obtain ⟨b, hb⟩ := isTk_da hj t1 t2 t3 (nk_pl t2)
      obtain ⟨ys, h1, hn, h2⟩ := own_nat q t4
      obtain ⟨rfl, ⟨dk, hb1, hb2⟩, _⟩ := hb
      refine .inr (.inr ⟨b, p, nk, ys, rfl, (isTk_da (da_sub hid_sub hj) t1 t2 t3 (nk_pl t2)).elim fun b' h => ?_, h1, (DxN.sm (ex_sub hid_sub) h2).keys, by rw [h2.len]; exact g2, f _ _ g (.inr ⟨_, upd_same, putN_ne, nd_putN hn, DxN.put (hj.da (nk_pl t2)) t2 t3 hd h2 hn⟩)⟩)
      have := h.ref
      cases this
      exact h
    | some key =>
      rw [e] at g
      obtain ⟨rfl, rfl⟩ := keyOf_da hj e
      obtain ⟨ys, h1, hn, h2⟩ := own_dk q g.1
      exact .inr (.inl ⟨p, _, rfl, DPut.k h1 (by rw [h2.len]; exact g2), f _ _ g.2 (.inl ⟨_, upd_same, nd_put key v hn, h2.put hd hn key⟩)⟩)
  | _ => exact g.elim
theorem es_setIt {i : Nat} {st : Stmt} (h : PS X st (tAsg (liftD B te) (gSub (tVar i) (liftD B ti) (rSetA B.K)))) : PS X st (liftS B (sSetIt i ti te)) := PS_mono h fun D σ H hq => by
  obtain ⟨own, E, De, rep, ht, k1, k2, k3, k4⟩ := hq
  refine ⟨own, E, _, rep, ht, fun d E1 own1 v H1 q1 ev1 da rep1 => ?_⟩
  cases e : E1[i]? with
  | none => rw [e] at q1; exact q1.elim
  | some w =>
    cases w with
    | none => rw [e] at q1; exact q1.elim
    | some r0 =>
      rw [e] at q1
      cases r0 with
      | o x0 =>
        obtain ⟨p, hp, _, _⟩ := own_same rep1 e
        refine ⟨_, hp, own1, E1, _, rep1, q1, fun j E2 own2 vj H2 q2 ev2 daj rep2 => ?_⟩
        cases e : E2[i]? with
        | none => rw [e] at q2; exact q2.elim
        | some w =>
          cases w with
          | none => rw [e] at q2; exact q2.elim
          | some r =>
            rw [e] at q2
            cases r with
            | o x =>
              obtain ⟨p2, hp2, hw, q⟩ := own_same rep2 e
              rw [hp] at hp2
              cases hp2
              refine setIt_val q daj (Dx.sm ev2.ex da) q2 fun x' o' hk q' => ?_
              obtain ⟨rep3, ev3⟩ := rep2.updSl e hw hp q q'
              exact k1 own2 _ σ _ hk ((ev1.trans ev2).trans ev3) rep3
            | d y => exact q2.elim
            | a φ => exact q2.elim
            | ob C fs => exact q2.elim
            | m c => exact q2.elim
      | d y => exact q1.elim
      | a φ => exact q1.elim
      | ob C fs => exact q1.elim
      | m c => exact q1.elim
end
end Kf

set_option Elab.async false
set_option linter.all false
set_option maxRecDepth 100000
set_option maxHeartbeats 2000000
namespace Kf
open PySem PySem.Spec PyProof.Rows L2 LamX NdefX
/-! ## while -/
def whileT (c : TTd) (tb : TSD) : Nat → EndD → EnvD → Prop
  | 0, _, _ => False
  | n + 1, D, E => c E fun b E1 => if b = true then tb { nx := whileT c tb n D, rt := D.rt, bk := D.nx, ct := whileT c tb n D, rs := D.rs } E1 else D.nx E1
def sWhile (c : TTd) (tb : TSD) : TSD := fun D E => ∃ n, whileT c tb n D E
section
variable {X : Cx} {B : Bas} {a b c e : Expr} {rest : List Expr} {es : List Expr} {ta tb t te ti : TV} {ts : TVs} {tA tB' : TTd} {pos : Pos}
theorem es_while {c : Expr} {st : Stmt} {tc : TTd} {tb : TSD} (h : PS X st (tWhile (liftT B tc) (liftS B tb))) : PS X st (liftS B (sWhile tc tb)) := PS_mono h fun D σ H hq => by
  obtain ⟨own, E, De, rep, ⟨n, ht⟩, k1, k2, k3, k4, k5⟩ := hq
  refine ⟨fun m σ' H' => ∃ own' E', Rep B own' σ' H' E' ∧ Evo own H own' H' ∧ whileT tc tb m De E', ⟨n, own, E, rep, Evo.refl _ _, ht⟩, fun m σ1 H1 ⟨own1, E1, rep1, ev1, ht1⟩ => ?_⟩
  cases m with
  | zero => exact ht1.elim
  | succ m =>
    refine ⟨own1, E1, _, rep1, ht1, fun b E2 own2 H2 q2 ev2 rep2 => ?_⟩
    cases b with
    | false => exact iteF (k1 own2 E2 σ1 H2 q2 (ev1.trans ev2) rep2)
    | true =>
      refine iteT ⟨fun σ' H' => ∃ own' E', Rep B own' σ' H' E' ∧ Evo own H own' H' ∧ whileT tc tb m De E', fun σ' H' h => ⟨m, Nat.lt_succ_self m, h⟩, own2, E2, _, rep2, q2, fun o3 E3 s3 H3 q3 ev3 rep3 => ⟨o3, E3, rep3, (ev1.trans ev2).trans ev3, q3⟩, k2, fun o3 E3 s3 H3 q3 ev3 rep3 => k1 o3 E3 s3 H3 q3 ((ev1.trans ev2).trans ev3) rep3, fun o3 E3 s3 H3 q3 ev3 rep3 => ⟨o3, E3, rep3, (ev1.trans ev2).trans ev3, q3⟩, fun C fs o3 E3 s3 d3 H3 q3 ev3 x3 rep3 => k5 C fs o3 E3 s3 d3 H3 q3 ((ev1.trans ev2).trans ev3) x3 rep3⟩
/-! ## one's own things are looked at -/
def atomR : Rv → Prop
  | .d .none => True
  | .d (.bool _) => True
  | .d (.int _) => True
  | .d (.str _) => True
  | _ => False
theorem atom_any {K : KW} {W W2 : List Comp} {H S' S2 H' : Hp} {v : V} {r : Rv} (a : atomR r) (h : RvN K W H S' H' v r) : RvS K W2 S2 v r := by
  cases r with
  | d x =>
    cases x with
    | none => cases (show Dx _ _ _ _ from h); exact Dx.non
    | bool b => cases (show Dx _ _ _ _ from h); exact Dx.bl b
    | int i => cases (show Dx _ _ _ _ from h); exact Dx.int i
    | str z => cases (show Dx _ _ _ _ from h); exact Dx.str z
    | _ => exact a.elim
  | _ => exact a.elim
/-- what a slot holds, as data -/
def lookD (E : EnvD) (i : Nat) (R : PyData → Prop) : Prop := match E[i]? with
  | some (some (.o x)) => R x
  | some (some (.d x)) => R x
  | _ => False
theorem look_da {own : Owns} {σ : L2.St} {H : Hp} {E : EnvD} (rep : Rep B own σ H E) {i : Nat} {R : PyData → Prop} (h : lookD E i R) : ∃ v x, σ[i]? = some (some v) ∧ Dx B.K H v x ∧ R x := by
  unfold lookD at h
  cases e : E[i]? with
  | none => rw [e] at h; exact h.elim
  | some w =>
    cases w with
    | none => rw [e] at h; exact h.elim
    | some r =>
      rw [e] at h
      obtain ⟨v, hv, ra⟩ := rep.sl i r e
      cases r with
      | o x =>
        obtain ⟨p, rfl, _, q⟩ := ra
        exact ⟨_, x, hv, q.da hid_ex, h⟩
      | d x => exact ⟨v, x, hv, da_sub hid_sub ra, h⟩
      | a φ => exact h.elim
      | ob C fs => exact h.elim
      | m c => exact h.elim
/-- f(x): x a name, the answer an atom -/
def dCallO (g : List PyData → (Rv → Prop) → Prop) (i : Nat) : TV := fun E R => lookD E i fun x => g [x] fun r => atomR r ∧ R r E
theorem callOE {r : List V → Hp → VK → Prop} {g : List PyData → (Rv → Prop) → Prop} {i : Nat} (hg : CallG B r g) {σ : L2.St} {H : Hp} {Q : VK} (hq : liftE B (dCallO g i) σ H Q) : tCB r (tCons (tVar i) tNil) σ H Q := by
  obtain ⟨own, E, R, rep, ht, k⟩ := hq
  obtain ⟨v, x, hv, da, hx⟩ := look_da rep ht
  refine ⟨v, hv, hg H H [v] [x] _ _ (fun _ _ h => h) (.cons da .nil) hx fun rv v' S' H' hk st rn => ?_⟩
  exact k rv E own v' H' hk.2 (.step st.sm.kp) (.of (atom_any hk.1 rn)) (rep.step st.sm)
theorem ev_callO {x y : Str} {id : String} {p p2 : Pos} {r : List V → Hp → VK → Prop} {g : List PyData → (Rv → Prop) → Prop} {i : Nat} (hc : CallR X (.builtin id) r) (hg : CallG B r g) (hgl : Gl X x) (hm : X.mg x = none) (hv : bootBuiltins x = some (.builtin id)) (ha : PE X (.Name y p2) (tVar i))
    (hn : x ≠ "__name__" := by decide) (hdb : (x == ("__debug__" : Str)) = false := by decide) (hs : starEach (.Name y p2 :: []) X.env = (false, eval (.Name y p2) X.env) :: starEach [] X.env := by rfl) (hpl : (backTo pos (starEach [] X.env)).any (·.1) = false := by rfl) :
    PE X (.Call (.Name x p) [.Name y p2] [] pos) (liftE B (dCallO g i)) := PE_mono (pe_callB hc hgl hm hv (pa_cons ha pa_nil hs) hn hdb hs hpl) fun _ _ _ => callOE hg
/-- e op x, x op e: x a name -/
def dOpO2 (g : PyData → PyData → (Rv → Prop) → Prop) (ta : TV) (i : Nat) : TV := fun E R => ta E fun r1 E1 => r1.toD (fun d1 E1 => lookD E1 i fun x => g d1 x fun r => atomR r ∧ R r E1) E1
def dOpO1 (g : PyData → PyData → (Rv → Prop) → Prop) (i : Nat) (tb : TV) : TV := fun E R => lookD E i fun _ => tb E fun r2 E2 => r2.toD (fun d2 E2 => lookD E2 i fun x => g x d2 fun r => atomR r ∧ R r E2) E2
theorem opO2E {r : R2} {g : PyData → PyData → (Rv → Prop) → Prop} {i : Nat} (hg : OpG B r g) {σ : L2.St} {H : Hp} {Q : VK} (hq : liftE B (dOpO2 g ta i) σ H Q) : tOp r (liftD B ta) (tVar i) σ H Q := by
  obtain ⟨own, E, R, rep, ht, k⟩ := hq
  refine ⟨own, E, _, rep, ht, fun d1 E1 own1 v1 H1 q1 ev1 da1 rep1 => ?_⟩
  obtain ⟨v, x, hv, da, hx⟩ := look_da rep1 q1
  refine ⟨v, hv, hg H1 H1 v1 v d1 x _ _ (fun _ _ h => h) (da_sub hid_sub da1) da hx fun rv v' S' H' hk st rn => ?_⟩
  exact k rv E1 own1 v' H' hk.2 (ev1.trans (.step st.sm.kp)) (.of (atom_any hk.1 rn)) (rep1.step st.sm)
theorem opO1E {r : R2} {g : PyData → PyData → (Rv → Prop) → Prop} {i : Nat} (hg : OpG B r g) {σ : L2.St} {H : Hp} {Q : VK} (hq : liftE B (dOpO1 g i tb) σ H Q) : tOp r (tVar i) (liftD B tb) σ H Q := by
  obtain ⟨own, E, R, rep, ht, k⟩ := hq
  obtain ⟨v, x0, hv, _, hx⟩ := look_da rep ht
  refine ⟨v, hv, own, E, _, rep, hx, fun d2 E2 own2 v2 H2 q2 ev2 da2 rep2 => ?_⟩
  obtain ⟨v', x, hv', da, hx2⟩ := look_da rep2 q2
  rw [hv] at hv'
  cases hv'
  refine hg H2 H2 v v2 x d2 _ _ (fun _ _ h => h) da (da_sub hid_sub da2) hx2 fun rv v3 S' H' hk st rn => ?_
  exact k rv E2 own2 v3 H' hk.2 (ev2.trans (.step st.sm.kp)) (.of (atom_any hk.1 rn)) (rep2.step st.sm)
theorem ev_cmpO2 {op : CmpOp} {y : Str} {p2 : Pos} {i : Nat} {r : R2} {g : PyData → PyData → (Rv → Prop) → Prop} (ho : OpR X (compareOp op) r) (hg : OpG B r g) (ha : PE X a (liftE B ta)) (hb : PE X (.Name y p2) (tVar i)) (hm : behindInMarks op (.Name y p2) = false) : PE X (.Compare a [op] [.Name y p2] pos) (liftE B (dOpO2 g ta i)) :=
  PE_mono (pe_cmpR ho (ev_D ha) hb hm) fun _ _ _ => opO2E hg
theorem ev_cmpO1 {op : CmpOp} {y : Str} {p2 : Pos} {i : Nat} {r : R2} {g : PyData → PyData → (Rv → Prop) → Prop} (ho : OpR X (compareOp op) r) (hg : OpG B r g) (ha : PE X (.Name y p2) (tVar i)) (hb : PE X b (liftE B tb)) (hm : behindInMarks op b = false) : PE X (.Compare (.Name y p2) [op] [b] pos) (liftE B (dOpO1 g i tb)) :=
  PE_mono (pe_cmpR ho ha (ev_D hb) hm) fun _ _ _ => opO1E hg
theorem et_cmpO2 {op : CmpOp} {y : Str} {p2 : Pos} {i : Nat} {r : R2} {g : PyData → PyData → (Rv → Prop) → Prop} (ho : OpR X (compareOp op) r) (hg : OpG B r g) (ha : PE X a (liftE B ta)) (hb : PE X (.Name y p2) (tVar i)) (hm : behindInMarks op (.Name y p2) = false) : PT X (.Compare a [op] [.Name y p2] pos) (liftT B (dTb (dOpO2 g ta i))) :=
  PT_mono (pt_cmpR ho (ev_D ha) hb hm) fun _ _ _ => testE fun _ => opO2E hg
theorem et_cmpO1 {op : CmpOp} {y : Str} {p2 : Pos} {i : Nat} {r : R2} {g : PyData → PyData → (Rv → Prop) → Prop} (ho : OpR X (compareOp op) r) (hg : OpG B r g) (ha : PE X (.Name y p2) (tVar i)) (hb : PE X b (liftE B tb)) (hm : behindInMarks op b = false) : PT X (.Compare (.Name y p2) [op] [b] pos) (liftT B (dTb (dOpO1 g i tb))) :=
  PT_mono (pt_cmpR ho ha (ev_D hb) hm) fun _ _ _ => testE fun _ => opO1E hg
/-- x[e]: x a name -/
def dIxO (i : Nat) (ti : TV) : TV := fun E R => lookD E i fun _ => ti E fun r1 E1 => r1.toD (fun d1 E1 => lookD E1 i fun x => gIx x d1 fun r => R r E1) E1
theorem gIx_d {x d : PyData} {k : Rv → Prop} (h : gIx x d k) : ∃ y, gIx x d (fun r => r = .d y) ∧ k (.d y) := by
  cases x with
  | list ds =>
    cases d with
    | int i =>
      have h : (match atI ds i with | some x => k (.d x) | none => False) := h
      cases e : atI ds i with
      | none => rw [e] at h; exact h.elim
      | some y =>
        rw [e] at h
        exact ⟨y, show (match atI ds i with | some x => Rv.d x = .d y | none => False) by rw [e], h⟩
    | _ => exact h.elim
  | tuple ds =>
    cases d with
    | int i =>
      have h : (match atI ds i with | some x => k (.d x) | none => False) := h
      cases e : atI ds i with
      | none => rw [e] at h; exact h.elim
      | some y =>
        rw [e] at h
        exact ⟨y, show (match atI ds i with | some x => Rv.d x = .d y | none => False) by rw [e], h⟩
    | _ => exact h.elim
  | str z =>
    cases d with
    | int i =>
      obtain ⟨h1, h⟩ := (show z.length ≤ sizeLine ∧ (match atI z.cps.toList i with | some c => k (.d (.str ⟨#[c]⟩)) | none => False) from h)
      cases e : atI z.cps.toList i with
      | none => rw [e] at h; exact h.elim
      | some c =>
        rw [e] at h
        exact ⟨_, show z.length ≤ sizeLine ∧ (match atI z.cps.toList i with | some c' => Rv.d (.str ⟨#[c']⟩) = .d (.str ⟨#[c]⟩) | none => False) by rw [e]; exact ⟨h1, rfl⟩, h⟩
    | _ => exact h.elim
  | dict kvs =>
    have h : dKey d kvs _ _ := h
    unfold dKey at h
    cases e0 : keyOf d with
    | some key =>
      rw [e0] at h
      obtain ⟨h1, h⟩ := h
      cases e : findD d kvs with
      | none => rw [e] at h; exact h.elim
      | some y =>
        rw [e] at h
        refine ⟨y, ?_, h⟩
        show dKey d kvs _ _
        unfold dKey
        rw [e0]
        show tkd kvs = false ∧ (match findD d kvs with | some x => Rv.d x = .d y | none => False)
        rw [e]
        exact ⟨h1, rfl⟩
    | none =>
      rw [e0] at h
      obtain ⟨nk, h1, h⟩ := h
      cases e : findT nk kvs with
      | none => rw [e] at h; exact h.elim
      | some y =>
        rw [e] at h
        refine ⟨y, ?_, h⟩
        show dKey d kvs _ _
        unfold dKey
        rw [e0]
        refine ⟨nk, h1, ?_⟩
        show (match findT nk kvs with | some x => Rv.d x = .d y | none => False)
        rw [e]
  | _ => exact h.elim
theorem ixOE {i : Nat} {σ : L2.St} {H : Hp} {Q : VK} (hq : liftE B (dIxO i ti) σ H Q) : tOp (rIxA B.K) (tVar i) (liftD B ti) σ H Q := by
  obtain ⟨own, E, R, rep, ht, k⟩ := hq
  obtain ⟨v, x0, hv, _, hx⟩ := look_da rep ht
  refine ⟨v, hv, own, E, _, rep, hx, fun d2 E2 own2 v2 H2 q2 ev2 da2 rep2 => ?_⟩
  unfold lookD at q2
  cases e : E2[i]? with
  | none => rw [e] at q2; exact q2.elim
  | some w =>
    cases w with
    | none => rw [e] at q2; exact q2.elim
    | some r =>
      rw [e] at q2
      obtain ⟨v', hv', ra⟩ := rep2.sl i r e
      rw [hv] at hv'
      cases hv'
      have fin : ∀ {y : PyData} {vy : V}, Dx B.K (hid own2 H2) vy y → R (.d y) E2 → Q vy H2 := fun {y vy} hy hk => k (.d y) E2 own2 vy H2 hk ev2 hy rep2
      cases r with
      | d x =>
        refine og_ix (hid own2 H2) H2 v v2 x d2 _ _ hid_sub ra da2 q2 fun rv v3 S' H' hk st rn => ?_
        obtain ⟨own3, rep3, ev3, ra3⟩ := rep2.res st rn
        exact k rv E2 own3 v3 H' hk (ev2.trans ev3) ra3 rep3
      | o x =>
        obtain ⟨p, rfl, _, q⟩ := ra
        cases x with
        | list ds =>
          obtain ⟨ys, h1, h2⟩ := q
          cases da2 with
          | int j =>
            have g : (match atI ds j with | some x => R (.d x) E2 | none => False) := q2
            cases e2 : atI ds j with
            | none => rw [e2] at g; exact g.elim
            | some d =>
              rw [e2] at g
              obtain ⟨y, h3, h4⟩ := atD h2 e2
              exact .inl ⟨p, ys, j, y, rfl, rfl, .of h1, h3, fin h4 g⟩
          | _ => exact q2.elim
        | dict ds =>
          have g : dKey d2 ds _ _ := q2
          unfold dKey at g
          cases e2 : keyOf d2 with
          | none =>
            rw [e2] at g
            obtain ⟨nk, ⟨t1, t2, t3, t4⟩, g⟩ := g
            obtain ⟨b, hb⟩ := isTk_da (da_sub hid_sub da2) t1 t2 t3 (nk_pl t2)
            obtain ⟨xs, g1, _, g3⟩ := own_nat q t4
            cases e3 : atN xs nk with
            | none => rw [(g3.find nk).2 e3] at g; exact g.elim
            | some y =>
              obtain ⟨d, h3, h4⟩ := (g3.find nk).1 y e3
              rw [h3] at g
              exact .inr (.inr (.inr (.inr ⟨b, p, nk, xs, y, rfl, hb, g1, (DxN.sm (ex_sub hid_sub) g3).keys, e3, fin h4 g⟩)))
          | some key =>
            rw [e2] at g
            obtain ⟨rfl, rfl⟩ := keyOf_da da2 e2
            obtain ⟨kvs, h1, hn, r⟩ := own_dk q g.1
            have g := g.2
            cases e3 : valV kvs key with
            | none => rw [(r.find key).2 e3] at g; exact g.elim
            | some y =>
              obtain ⟨d, h3, h4⟩ := (r.find key).1 y e3
              rw [h3] at g
              exact .inr (.inr (.inr (.inl ⟨p, y, rfl, .inl ⟨kvs, key, .inl h1, rfl, e3.symm⟩, fin h4 g⟩)))
        | _ => exact q.elim
      | a φ => exact q2.elim
      | ob C fs => exact q2.elim
      | m c => exact q2.elim
theorem ev_ixO {y : Str} {p2 : Pos} {i : Nat} (hr : IxR X (rIxA B.K)) (ha : PE X (.Name y p2) (tVar i)) (hb : PE X b (liftE B ti)) (hs : PlainIx b) : PE X (.Subscript (.Name y p2) b pos) (liftE B (dIxO i ti)) :=
  PE_mono (pe_ix hr ha (ev_D hb) hs) fun _ _ _ => ixOE
/-! ### slices -/
def dPartN : EnvD → (Option Int → EnvD → Prop) → Prop := fun E R => R none E
def dPart (t : TV) : EnvD → (Option Int → EnvD → Prop) → Prop := fun E R => t E fun r E1 => r.toD (fun d E1 => match d with
  | .int i => R (some i) E1
  | _ => False) E1
def cutD {α : Type} (xs : List α) (lo hi : Option Int) : List α := (xs.drop (HT.sIx xs.length 0 lo)).take (HT.sIx xs.length xs.length hi - HT.sIx xs.length 0 lo)
theorem DxAll.cut {K : KW} {S : Hp} {xs : List V} {ds : List PyData} (h : DxAll K S xs ds) (lo hi : Option Int) : DxAll K S (cutV xs lo hi) (cutD ds lo hi) := by
  unfold cutV cutD
  rw [h.len]
  exact (h.drop _).take _
def dSl (te : TV) (tl th : EnvD → (Option Int → EnvD → Prop) → Prop) : TV := fun E R => te E fun r E1 => r.toD (fun d E1 => tl E1 fun l E2 => th E2 fun u E3 => match d with
  | .list ds => R (.o (.list (cutD ds l u))) E3
  | .tuple ds => R (.d (.tuple (cutD ds l u))) E3
  | .str z => z.length ≤ sizeLine ∧ R (.d (.str (Txt.slice z l u))) E3
  | _ => False) E1
def liftO (B : Bas) (t : EnvD → (Option Int → EnvD → Prop) → Prop) : TO := fun σ H Q => ∃ own E R, Rep B own σ H E ∧ t E R ∧ ∀ o E' own' H', R o E' → Evo own H own' H' → Rep B own' σ H' E' → Q o H'
theorem PO_mono {X : Cx} {e : Option Expr} {t t' : TO} (h : PO X e t) (m : ∀ σ H Q, t' σ H Q → t σ H Q) : PO X e t' := ⟨fun pins s σ H Q I q => h.run pins s σ H Q I (m σ H Q q)⟩
theorem eo_none : PO X none (liftO B dPartN) := PO_mono po_none fun σ H Q hq => by
  obtain ⟨own, E, R, rep, ht, k⟩ := hq
  exact k none E own H ht (Evo.refl _ _) rep
theorem eo_some (h : PE X e (liftE B te)) : PO X (some e) (liftO B (dPart te)) := PO_mono (po_some (ev_D h)) fun σ H Q hq => by
  obtain ⟨own, E, R, rep, ht, k⟩ := hq
  refine ⟨own, E, _, rep, ht, fun d E1 own1 v H1 q1 ev1 da rep1 => ?_⟩
  cases da with
  | int i => exact ⟨i, rfl, k (some i) E1 own1 H1 q1 ev1 rep1⟩
  | _ => exact q1.elim
theorem ev_sl {lo hi : Option Expr} {p2 : Pos} {tl th : EnvD → (Option Int → EnvD → Prop) → Prop} (hK : X.K = B.K) (he : PE X e (liftE B te)) (hl : PO X lo (liftO B tl)) (hu : PO X hi (liftO B th)) : PE X (.Subscript e (.Slice lo hi none p2) pos) (liftE B (dSl te tl th)) := PE_mono (pe_slice ((sl_list.or sl_tupA).or C8.sl_txt) (ev_D he) hl hu) fun σ H Q hq => by
  obtain ⟨own, E, R, rep, ht, k⟩ := hq
  refine ⟨own, E, _, rep, ht, fun d E1 own1 v H1 q1 ev1 da rep1 => ⟨own1, E1, _, rep1, q1, fun l E2 own2 H2 q2 ev2 rep2 => ⟨own2, E2, _, rep2, q2, fun u E3 own3 H3 q3 ev3 rep3 => ?_⟩⟩⟩
  have ev := (ev1.trans ev2).trans ev3
  have da3 := Dx.sm (ev2.trans ev3).ex da
  rw [hK]
  have f : ∀ rv v S' H', R rv E3 → Stp B.T (hid own3 H3) H3 S' H' → RvN B.K B.W H3 S' H' v rv → Q v H' := fun rv v S' H' hk st rn => by
    obtain ⟨own4, rep4, ev4, ra⟩ := rep3.res st rn
    exact k rv E3 own4 v H' hk (ev.trans ev4) ra rep4
  cases da3 with
  | @lst a xs ds h r => exact .inl (.inl ⟨a, xs, rfl, sqL_sub hid_sub h, fin_l hid_sub f q3 (r.cut l u)⟩)
  | str z => exact .inr ⟨z, rfl, q3.1, k (.d (.str _)) E3 own3 _ H3 q3.2 ev (.str _) rep3⟩
  | @tup a xs ds h r =>
    refine .inl (.inr ⟨a, xs, rfl, sqT_sub hid_sub h, fun hw => ?_, fun _ => fin_t hid_sub f q3 (r.cut l u)⟩)
    have e : cutD ds l u = ds := by
      unfold cutD
      rw [← r.len, hw.1, hw.2, r.len]
      simp
    have q3 : R (.d (.tuple (cutD ds l u))) E3 := q3
    rw [e] at q3
    exact fin_d hid_sub f q3 (.tup h r)
  | _ => exact q3.elim
end
end Kf

set_option Elab.async false
set_option linter.all false
set_option maxRecDepth 100000
set_option maxHeartbeats 2000000
namespace Kf
open PySem PySem.Spec PyProof.Rows L2 LamX NdefX
theorem _root_.L2.Room.u65 {k : Nat} {A : Around} (r : Room k A) : A.units + 65 < cLine := by have := r.un; omega
section
variable {X : Cx} {B : Bas} {a b c e : Expr} {rest : List Expr} {es : List Expr} {ta tb t te ti : TV} {ts : TVs} {tA tB' : TTd} {pos : Pos}
/-- a < b < c as a value -/
def dChainV (g g' : PyData → PyData → (Rv → Prop) → Prop) (ta tb tc : TV) : TV := fun E R => ta E fun r1 E1 => r1.toD (fun d1 E1 => tb E1 fun r2 E2 => r2.toD (fun d2 E2 => g d1 d2 fun r => match r with
  | .d (.bool b) => if b = true then tc E2 fun r3 E3 => r3.toD (fun d3 E3 => g' d2 d3 fun r => R r E3) E3 else R (.d (.bool false)) E2
  | _ => False) E2) E1
theorem ev_chain {op op' : CmpOp} {r r' : R2} {g g' : PyData → PyData → (Rv → Prop) → Prop} {tc : TV} (ho : OpR X (compareOp op) r) (hg : OpG B r g) (ho' : OpR X (compareOp op') r') (hg' : OpG B r' g') (ha : PE X a (liftE B ta)) (hb : PE X b (liftE B tb)) (hc : PE X c (liftE B tc))
    (hm : lastMarks [op, op'] [b, c] = false := by rfl) : PE X (.Compare a [op, op'] [b, c] pos) (liftE B (dChainV g g' ta tb tc)) :=
  PE_mono (pe_chain ho ho' (ev_D ha) (ev_D hb) (ev_D hc) (hm := hm)) fun σ H Q hq => by
    obtain ⟨own, E, R, rep, ht, k⟩ := hq
    refine ⟨own, E, _, rep, ht, fun d1 E1 own1 v1 H1 q1 ev1 da1 rep1 => ⟨own1, E1, _, rep1, q1, fun d2 E2 own2 v2 H2 q2 ev2 da2 rep2 => ?_⟩⟩
    refine hg (hid own2 H2) H2 v1 v2 d1 d2 _ _ hid_sub (Dx.sm ev2.ex da1) da2 q2 fun rv v S' H' hk st rn => ?_
    cases rv with
    | d d =>
      cases d with
      | bool b0 =>
        cases (show Dx _ _ _ _ from rn)
        have ev3 := Evo.step (own := own2) st.sm.kp
        have rep3 := rep2.step st.sm
        refine ⟨b0, rfl, ?_⟩
        cases b0 with
        | false => exact iteF (k (.d (.bool false)) E2 own2 _ H' hk ((ev1.trans ev2).trans ev3) (.bl false) rep3)
        | true =>
          refine iteT ⟨own2, E2, _, rep3, hk, fun d3 E3 own4 v3 H4 q3 ev4 da3 rep4 => ?_⟩
          refine hg' (hid own4 H4) H4 v2 v3 d2 d3 _ _ hid_sub (Dx.sm (ev3.trans ev4).ex da2) da3 q3 fun rv v S5 H5 hk5 st5 rn5 => ?_
          obtain ⟨own5, rep5, ev5, ra⟩ := rep4.res st5 rn5
          exact k rv E3 own5 v H5 hk5 ((((ev1.trans ev2).trans ev3).trans ev4).trans ev5) ra rep5
      | _ => exact hk.elim
    | o x => exact hk.elim
    | a φ => exact hk.elim
    | ob C fs => exact hk.elim
    | m c => exact hk.elim
/-! ### calls that look at one's own things -/
abbrev ArgB := Sum Rv Nat
abbrev TVb := EnvD → (List ArgB → EnvD → Prop) → Prop
def liftAB (B : Bas) (t : TVb) : TA := fun σ H Q => ∃ own E R, Rep B own σ H E ∧ t E R ∧ ∀ rs E' own' vs H', R rs E' → Evo own H own' H' → Paired (fun v (r : ArgB) => match r with | .inl r => RvS B.K B.W (hid own' H') v r | .inr i => σ[i]? = some (some v)) vs rs → Rep B own' σ H' E' → Q vs H'
def bNil : TVb := fun E R => R [] E
def bCons (t : TV) (ts : TVb) : TVb := fun E R => t E fun r E1 => r.stb (fun r E1 => ts E1 fun rs E2 => R (.inl r :: rs) E2) E1
def bOwn (i : Nat) (ts : TVb) : TVb := fun E R => lookD E i fun _ => ts E fun rs E2 => R (.inr i :: rs) E2
theorem eb_nil : PA X [] (liftAB B bNil) := PA_mono pa_nil fun σ H Q hq => by
  obtain ⟨own, E, R, rep, ht, k⟩ := hq
  exact k [] E own [] H ht (Evo.refl _ _) .nil rep
theorem eb_cons {tbs : TVb} (ha : PE X e (liftE B t)) (hr : PA X es (liftAB B tbs)) (hs : starEach (e :: es) X.env = (false, eval e X.env) :: starEach es X.env := by rfl) : PA X (e :: es) (liftAB B (bCons t tbs)) := PA_mono (pa_cons (ev_S ha) hr hs) fun σ H Q hq => by
  obtain ⟨own, E, R, rep, ht, k⟩ := hq
  refine ⟨own, E, _, rep, ht, fun r E1 own1 v H1 q1 ev1 rs1 rep1 => ⟨own1, E1, _, rep1, q1, fun rs E2 own2 vs H2 q2 ev2 rs2 rep2 => ?_⟩⟩
  exact k (.inl r :: rs) E2 own2 (v :: vs) H2 q2 (ev1.trans ev2) (.cons (RvS.sm ev2.ex rs1) rs2) rep2
theorem eb_own {tbs : TVb} {i : Nat} (ha : PE X e (tVar i)) (hr : PA X es (liftAB B tbs)) (hs : starEach (e :: es) X.env = (false, eval e X.env) :: starEach es X.env := by rfl) : PA X (e :: es) (liftAB B (bOwn i tbs)) := PA_mono (pa_cons ha hr hs) fun σ H Q hq => by
  obtain ⟨own, E, R, rep, ht, k⟩ := hq
  obtain ⟨v, x, hv, _, hx⟩ := look_da rep ht
  refine ⟨v, hv, own, E, _, rep, hx, fun rs E2 own2 vs H2 q2 ev2 rs2 rep2 => ?_⟩
  exact k (.inr i :: rs) E2 own2 (v :: vs) H2 q2 ev2 (.cons hv rs2) rep2
/-- what a def that looks may see -/
def see (own : Owns) (H : Hp) : Hp := fun a => match own a with
  | none => H a
  | some (.sl _) => H a
  | _ => none
theorem see_sub {own : Owns} {H : Hp} : Sub (see own H) H := fun a o h => by
  unfold see at h
  split at h
  · exact h
  · exact h
  · cases h
theorem hid_see {own : Owns} {H : Hp} : ExtN (hid own H) (see own H) := fun a o h _ => by
  obtain ⟨h1, h2⟩ := hid_some h
  unfold see
  rw [h1]
  exact h2
theorem look_see {own : Owns} {σ : L2.St} {H : Hp} {E : EnvD} (rep : Rep B own σ H E) {i : Nat} {R : PyData → Prop} (h : lookD E i R) : ∃ v x, σ[i]? = some (some v) ∧ Dx B.K (see own H) v x ∧ R x := by
  unfold lookD at h
  cases e : E[i]? with
  | none => rw [e] at h; exact h.elim
  | some w =>
    cases w with
    | none => rw [e] at h; exact h.elim
    | some r =>
      rw [e] at h
      obtain ⟨v, hv, ra⟩ := rep.sl i r e
      cases r with
      | o x =>
        obtain ⟨p, rfl, hw, q⟩ := ra
        have ep : see own H p = H p := by unfold see; rw [hw]
        refine ⟨_, x, hv, ?_, h⟩
        cases x with
        | list ds =>
          obtain ⟨xs, h1, h2⟩ := q
          exact .lst (.of (by rw [ep]; exact h1)) (h2.sm hid_see)
        | dict ds =>
          rcases q with ⟨kvs, h1, hn, h2⟩ | ⟨xs, h1, ne, hn, h2⟩
          · exact .dct (by rw [ep]; exact h1) hn (h2.sm hid_see)
          · exact .dcn (by rw [ep]; exact h1) ne hn (h2.sm hid_see)
        | _ => exact q.elim
      | d x => exact ⟨v, x, hv, Dx.sm hid_see ra, h⟩
      | a φ => exact h.elim
      | ob C fs => exact h.elim
      | m c => exact h.elim
def resolve : List ArgB → EnvD → (List Rv → Prop) → Prop
  | [], _, R => R []
  | .inl r :: t, E, R => resolve t E fun rs => R (r :: rs)
  | .inr i :: t, E, R => lookD E i fun x => resolve t E fun rs => R (.d x :: rs)
theorem resolve_ok {own : Owns} {σ : L2.St} {H : Hp} {E : EnvD} (rep : Rep B own σ H E) : ∀ {as : List ArgB} {vs : List V} {R : List Rv → Prop}, Paired (fun v (r : ArgB) => match r with | .inl r => RvS B.K B.W (hid own H) v r | .inr i => σ[i]? = some (some v)) vs as → resolve as E R → ∃ rs, R rs ∧ Paired (RvS B.K B.W (see own H)) vs rs
  | _, _, _, .nil, h => ⟨[], h, .nil⟩
  | _, _, _, .cons (b := .inl r) p t, h => by
    obtain ⟨rs, h1, h2⟩ := resolve_ok rep t h
    exact ⟨r :: rs, h1, .cons (RvS.sm hid_see p) h2⟩
  | _, _, _, .cons (b := .inr i) p t, h => by
    obtain ⟨v, x, hv, da, hx⟩ := look_see rep h
    have p : σ[i]? = some (some _) := p
    rw [hv] at p
    cases p
    obtain ⟨rs, h1, h2⟩ := resolve_ok rep t hx
    exact ⟨.d x :: rs, h1, .cons da h2⟩
def dCalB (n : Nat) (tf : List Rv → (Rv → Prop) → Prop) (ts : TVb) : TV := fun E R => ts E fun as E1 => resolve as E1 fun rs => rs.length = n ∧ tf rs fun r => atomR r ∧ R r E1
theorem ev_calB {j k n : Nat} {x : Str} {ps : List Str} {p : Pos} {tbs : TVb} {tf : List Rv → (Rv → Prop) → Prop} (C : Cal X.prog X.w X.K X.mg X.base k x ps (spT B.T B.K n tf)) (hk : k ≤ j) (hr : Room j X.A) (hg : Gl X x) (ha : PA X (e :: es) (liftAB B tbs)) (hdb : (x == ("__debug__" : Str)) = false := by decide)
    (he : starEach (e :: es) X.env = (false, eval e X.env) :: starEach es X.env := by rfl) (hpl : (backTo pos (starEach es X.env)).any (·.1) = false := by rfl) : PE X (.Call (.Name x p) (e :: es) [] pos) (liftE B (dCalB n tf tbs)) := PE_mono (pe_cal C hk hr hg ha hdb he hpl) fun σ H Q hq => by
  obtain ⟨own, E, R, rep, ht, k⟩ := hq
  refine ⟨own, E, _, rep, ht, fun as E1 own1 vs H1 q1 ev1 rs1 rep1 => ?_⟩
  obtain ⟨rs, q2, rs2⟩ := resolve_ok rep1 rs1 q1
  refine ⟨see own1 H1, rs, _, B.W, by rw [List.append_nil, pairLen rs2]; exact q2.1, see_sub, rep1.tb, ⟨fun a m => ⟨by unfold see; rw [rep1.wd.tg a m], (rep1.wf.hs a m).2⟩, rep1.wf.kp, rep1.wf.dj, fun a o ho hs => rep1.wf.nt a o ho (by
    cases e : own1 a with
    | none =>
      have hs : H1 a = none := by
        unfold see at hs
        rw [e] at hs
        exact hs
      rw [hs] at ho; cases ho
    | some w => exact hid_own e)⟩, by rw [List.append_nil]; exact rs2, q2.2, fun r v S' H' hr st rn => ?_⟩
  obtain ⟨rep2, ev2⟩ := rep1.stepW st.sm st.kp
  exact k r E1 own1 v H' hr.2 (ev1.trans ev2) (.of (atom_any hr.1 rn)) rep2
end
end Kf

set_option Elab.async false
set_option linter.all false
set_option maxRecDepth 100000
set_option maxHeartbeats 2000000
namespace Kf
open PySem PySem.Spec PyProof.Rows L2 LamX NdefX
/-! ## all that is one's own is looked at, as if it were data -/
mutual
/-- no list, no dict -/
def tupD : PyData → Bool
  | .list _ => false
  | .dict _ => false
  | .tuple xs => tupDs xs
  | _ => true
def tupDs : List PyData → Bool
  | [] => true
  | x :: r => tupD x && tupDs r
end
mutual
theorem nk_tup : ∀ {d : PyData} {nk : NestedKey}, nkD d = some nk → tupD d = true
  | .none, _, _ => by simp [tupD]
  | .bool _, _, _ => by simp [tupD]
  | .int _, _, _ => by simp [tupD]
  | .str _, _, _ => by simp [tupD]
  | .tuple ds, nk, h => by
    simp only [nkD] at h
    cases e : nkDs ds with
    | none => rw [e] at h; cases h
    | some ks => simpa only [tupD] using nks_tup e
  | .list ds, nk, h => by simp [nkD] at h
  | .dict ds, nk, h => by simp [nkD] at h
theorem nks_tup : ∀ {ds : List PyData} {ks : List NestedKey}, nkDs ds = some ks → tupDs ds = true
  | [], _, _ => by simp [tupDs]
  | d :: r, ks, h => by
    simp only [nkDs] at h
    cases e1 : nkD d with
    | none => rw [e1] at h; cases h
    | some k =>
      cases e2 : nkDs r with
      | none => rw [e1, e2] at h; cases h
      | some ks' => simp only [tupDs, nk_tup e1, nks_tup e2, Bool.and_self]
end
/-- nothing of one's own can hang on it -/
def flatR : Rv → Prop
  | .d x => tupD x = true
  | .o (.list xs) => tupDs xs = true
  | .o (.dict xs) => tupDs (xs.map (·.2)) = true
  | _ => False
def frzE (E : EnvD) : EnvD := E.map fun u => match u with
  | some (.o x) => some (.d x)
  | u => u
def dScope (t : TV) : TV := fun E R => t (frzE E) fun r _ => flatR r ∧ R r E
def dScopeT (t : TTd) : TTd := fun E R => t (frzE E) fun b _ => R b E
theorem frzE_get {E : EnvD} {i : Nat} {r : Rv} (h : (frzE E)[i]? = some (some r)) : (E[i]? = some (some r) ∧ ∀ x, r ≠ .o x) ∨ ∃ x, r = .d x ∧ E[i]? = some (some (.o x)) := by
  unfold frzE at h
  rw [List.getElem?_map] at h
  cases e : E[i]? with
  | none => rw [e] at h; cases h
  | some u =>
    rw [e] at h
    have h := Option.some.inj h
    cases u with
    | none => cases h
    | some r' =>
      cases r' with
      | o x => cases h; exact .inr ⟨x, rfl, rfl⟩
      | d x => cases h; exact .inl ⟨rfl, nofun⟩
      | a φ => cases h; exact .inl ⟨rfl, nofun⟩
      | ob C fs => cases h; exact .inl ⟨rfl, nofun⟩
      | m c => cases h; exact .inl ⟨rfl, nofun⟩
mutual
theorem da_tup {K : KW} {S S' : Hp} (s : ∀ a xs, SqT K S a xs → SqT K S' a xs) : ∀ {v : V} {d : PyData}, Dx K S v d → tupD d = true → Dx K S' v d
  | _, _, .non, _ => .non
  | _, _, .bl b, _ => .bl b
  | _, _, .int i, _ => .int i
  | _, _, .str z, _ => .str z
  | _, _, .lst h r, e => by simp [tupD] at e
  | _, _, .tup h r, e => .tup (s _ _ h) (das_tup s r (by simpa [tupD] using e))
  | _, _, .dct h n r, e => by simp [tupD] at e
  | _, _, .dcn h ne n r, e => by simp [tupD] at e
theorem das_tup {K : KW} {S S' : Hp} (s : ∀ a xs, SqT K S a xs → SqT K S' a xs) : ∀ {vs : List V} {ds : List PyData}, DxAll K S vs ds → tupDs ds = true → DxAll K S' vs ds
  | _, _, .nil, _ => .nil
  | _, _, .cons (d := d) (ds := ds) h r, e => by
    have e : (tupD d && tupDs ds) = true := by simpa [tupDs] using e
    rw [Bool.and_eq_true] at e
    exact .cons (da_tup s h e.1) (das_tup s r e.2)
end
theorem dakv_tup {K : KW} {S S' : Hp} (s : ∀ a xs, SqT K S a xs → SqT K S' a xs) : ∀ {vs : List (Key × V)} {ds : List (PyData × PyData)}, DxKV K S vs ds → tupDs (ds.map (·.2)) = true → DxKV K S' vs ds
  | _, _, .nil, _ => .nil
  | _, _, .cons (d := d) (ds := ds) h r, e => by
    have e : (tupD d && tupDs (ds.map (·.2))) = true := by simpa [tupDs] using e
    rw [Bool.and_eq_true] at e
    exact .cons (da_tup s h e.1) (dakv_tup s r e.2)
theorem dxn_tup {K : KW} {S S' : Hp} (s : ∀ a xs, SqT K S a xs → SqT K S' a xs) : ∀ {vs : NEs} {ds : List (PyData × PyData)}, DxN K S vs ds → tupDs (ds.map (·.2)) = true → DxN K S' vs ds
  | _, _, .nil, _ => .nil
  | _, _, .cons hk e dp h r, t => by
    simp only [List.map_cons, tupDs, Bool.and_eq_true] at t
    exact .cons ((da_tup s (Da.dx hk) (nk_tup e)).da (nk_pl e)) e dp (da_tup s h t.1) (dxn_tup s r t.2)
/-- an owner is a slot -/
def isSl : Option Ow → Bool
  | some (.sl _) => true
  | _ => false
def openO (own : Owns) : Owns := fun a => if isSl (own a) then none else own a
def shutO (own own' : Owns) : Owns := fun a => if isSl (own a) then own a else own' a
theorem openO_sl {own : Owns} {a : Addr} (h : isSl (own a) = true) : openO own a = none := by unfold openO; rw [if_pos h]
theorem openO_no {own : Owns} {a : Addr} (h : isSl (own a) = false) : openO own a = own a := by unfold openO; rw [if_neg (by rw [h]; nofun)]
theorem shutO_sl {own own' : Owns} {a : Addr} (h : isSl (own a) = true) : shutO own own' a = own a := by unfold shutO; rw [if_pos h]
theorem shutO_no {own own' : Owns} {a : Addr} (h : isSl (own a) = false) : shutO own own' a = own' a := by unfold shutO; rw [if_neg (by rw [h]; nofun)]
section
variable {B : Bas} {own own' : Owns} {σ : L2.St} {H H' : Hp} {E : EnvD}
theorem hid_open : ExtN (hid own H) (hid (openO own) H) := hid_less fun a e => by rw [openO_no (by rw [e]; rfl)]; exact e
theorem open_some {a : Addr} {w : Ow} (e : openO own a = some w) : own a = some w ∧ isSl (own a) = false := by
  cases z : isSl (own a) with
  | true => rw [openO_sl z] at e; cases e
  | false => rw [openO_no z] at e; exact ⟨e, rfl⟩
/-- own things as data -/
theorem Rep.opn (R : Rep B own σ H E) : Rep B (openO own) σ H (frzE E) := by
  have em : ∀ {a w}, own a = some w → isSl (some w) = false → openO own a = some w := fun {a w} e z => by rw [openO_no (by rw [e]; exact z)]; exact e
  refine ⟨by unfold frzE; rw [List.length_map]; exact R.len, fun a e => ?_, R.bs, R.ss.trans hid_open, R.tb, fun a h1 h2 h3 => em (R.fr a h1 h2 h3) rfl, fun a o e => R.nw a o (open_some e).1, ⟨fun a m => em (R.wd.tg a m) rfl, R.wd.kp, R.wd.dj, fun a w e => R.wd.hl a w (open_some e).1⟩, fun i r e => ?_, fun i a m x e => ?_⟩
  · have q := R.al a e
    rw [openO_no (by rw [q]; rfl)]; exact q
  · rcases frzE_get e with ⟨e1, no⟩ | ⟨x, rfl, e1⟩
    · obtain ⟨v, hv, ra⟩ := R.sl i r e1
      refine ⟨v, hv, ?_⟩
      cases r with
      | o y => exact absurd rfl (no y)
      | d y => exact RvS.sm (K := B.K) (W := B.W) (r := .d y) hid_open ra
      | a φ => exact RvS.sm (K := B.K) (W := B.W) (r := .a φ) hid_open ra
      | ob C fs => exact RvS.sm (K := B.K) (W := B.W) (r := .ob C fs) hid_open ra
      | m c => exact ra
    · obtain ⟨v, hv, a, rfl, w, q⟩ := R.sl i _ e1
      refine ⟨_, hv, ?_⟩
      have ea : hid (openO own) H a = H a := hid_no (openO_sl (by rw [w]; rfl))
      cases x with
      | list ds =>
        obtain ⟨xs, h1, h2⟩ := q
        exact Dx.lst (.of (by rw [ea]; exact h1)) (h2.sm hid_open)
      | dict ds =>
        rcases q with ⟨kvs, h1, hn, h2⟩ | ⟨xs, h1, ne, hn, h2⟩
        · exact Dx.dct (by rw [ea]; exact h1) hn (h2.sm hid_open)
        · exact Dx.dcn (by rw [ea]; exact h1) ne hn (h2.sm hid_open)
      | _ => exact q.elim
  · rcases frzE_get e with ⟨e1, no⟩ | ⟨y, q, _⟩
    · exact absurd rfl (no x)
    · cases q
/-- what a slot owns is as it was -/
theorem Rep.kept (R : Rep B own σ H E) (ev : Evo (openO own) H own' H') {a : Addr} (z : isSl (own a) = true) : own' a = none ∧ ∃ o, H a = some o ∧ H' a = some o ∧ noT o := by
  cases e : own a with
  | none => rw [e] at z; cases z
  | some w =>
    rcases R.wd.hl a w e with m | ⟨o, ho, nt⟩
    · rw [R.wd.tg a m] at z; cases z
    · have h1 : hid (openO own) H a = some o := by rw [hid_no (openO_sl z)]; exact ho
      obtain ⟨h2, h3⟩ := hid_some (ev.ex a o h1 nt.nt)
      exact ⟨h2, o, ho, h3, nt⟩
theorem Rep.shut {E' : EnvD} (R : Rep B own σ H E) (R' : Rep B own' σ H' E') (ev : Evo (openO own) H own' H') : Rep B (shutO own own') σ H' E ∧ Evo own H (shutO own own') H' := by
  have dn : ∀ {a : Addr}, own a = none → isSl (own a) = false := fun {a} e => by rw [e]; rfl
  have ex : ExtN (hid own H) (hid (shutO own own') H') := fun a o h n => by
    obtain ⟨h1, h2⟩ := hid_some h
    have q : hid (openO own) H a = some o := by rw [hid_no (by rw [openO_no (dn h1)]; exact h1)]; exact h2
    obtain ⟨h3, h4⟩ := hid_some (ev.ex a o q n)
    rw [hid_no (by rw [shutO_no (dn h1)]; exact h3)]
    exact h4
  have evo : Evo own H (shutO own own') H' := ⟨ex, fun a h => by
    have z : isSl (own a) = false := by rw [h]; rfl
    have q := ev.fr a (by rw [openO_no z]; exact h)
    exact ⟨by rw [shutO_no z]; exact q.1, q.2⟩⟩
  refine ⟨⟨R.len, fun a e => ?_, R'.bs, R.ss.trans ex, R'.tb, fun a h1 h2 h3 => ?_, fun a o e => ?_, ⟨fun a m => ?_, R'.wd.kp, R.wd.dj, fun a w e => ?_⟩, fun i r e => ?_, R.pin⟩, evo⟩
  · cases z : isSl (own a) with
    | true =>
      obtain ⟨_, o, _, h3, _⟩ := R.kept ev z
      rw [e] at h3; cases h3
    | false => rw [shutO_no z]; exact R'.al a e
  · have z : isSl (own a) = false := by rw [R.fr a h1 h2 h3]; rfl
    rw [shutO_no z]; exact R'.fr a h1 h2 h3
  · cases z : isSl (own a) with
    | true => rw [shutO_sl z] at e; exact R.nw a o e
    | false => rw [shutO_no z] at e; exact R'.nw a o e
  · have z : isSl (own a) = false := by rw [R.wd.tg a m]; rfl
    rw [shutO_no z]; exact R'.wd.tg a m
  · cases z : isSl (own a) with
    | true =>
      obtain ⟨_, o, _, h3, nt⟩ := R.kept ev z
      exact .inr ⟨o, h3, nt⟩
    | false => rw [shutO_no z] at e; exact R'.wd.hl a w e
  · obtain ⟨v, hv, ra⟩ := R.sl i r e
    refine ⟨v, hv, ?_⟩
    cases r with
    | o y =>
      obtain ⟨a, e1, w, q⟩ := ra
      have z : isSl (own a) = true := by rw [w]; rfl
      obtain ⟨_, o, h2, h3, _⟩ := R.kept ev z
      exact ⟨a, e1, by rw [shutO_sl z]; exact w, q.sm ex (by rw [h2, h3])⟩
    | d y => exact RvS.sm (K := B.K) (W := B.W) (r := .d y) ex ra
    | a φ => exact RvS.sm (K := B.K) (W := B.W) (r := .a φ) ex ra
    | ob C fs => exact RvS.sm (K := B.K) (W := B.W) (r := .ob C fs) ex ra
    | m c => exact ra
theorem shut_sqT {E' : EnvD} (R : Rep B own σ H E) (R' : Rep B own' σ H' E') (ev : Evo (openO own) H own' H') : ∀ a xs, SqT B.K (hid own' H') a xs → SqT B.K (hid (shutO own own') H') a xs := fun a xs h => by
  have mv : ∀ {o : HO}, ¬ noT o → hid own' H' a = some o → hid (shutO own own') H' a = some o := fun {o} no e => by
    obtain ⟨h1, h2⟩ := hid_some e
    cases z : isSl (own a) with
    | true =>
      obtain ⟨_, o2, _, h3, nt⟩ := R.kept ev z
      rw [h2] at h3
      cases h3
      exact absurd nt no
    | false => rw [hid_no (by rw [shutO_no z]; exact h1)]; exact h2
  rcases h with (h | ⟨o, h⟩) | h
  · exact .inl (.inl (mv id h))
  · exact .inl (.inr ⟨o, mv id h⟩)
  · exact .inr h
theorem shut_val {E' : EnvD} (R : Rep B own σ H E) (R' : Rep B own' σ H' E') (ev : Evo (openO own) H own' H') {v : V} {r : Rv} (f : flatR r) (h : RvAt B.K B.W own' H' .tmp v r) : RvAt B.K B.W (shutO own own') H' .tmp v r := by
  have st := shut_sqT R R' ev
  cases r with
  | d x => exact da_tup st h f
  | o x =>
    obtain ⟨a, e1, w, q⟩ := h
    have z : isSl (own a) = false := by
      cases z : isSl (own a) with
      | false => rfl
      | true => rw [(R.kept ev z).1] at w; cases w
    refine ⟨a, e1, by rw [shutO_no z]; exact w, ?_⟩
    cases x with
    | list ds =>
      obtain ⟨xs, h1, h2⟩ := q
      exact ⟨xs, h1, das_tup st h2 f⟩
    | dict ds =>
      rcases q with ⟨kvs, h1, hn, h2⟩ | ⟨xs, h1, ne, hn, h2⟩
      · exact .inl ⟨kvs, h1, hn, dakv_tup st h2 f⟩
      · exact .inr ⟨xs, h1, ne, hn, dxn_tup st h2 f⟩
    | _ => exact q.elim
  | _ => exact f.elim
end
section
variable {X : Cx} {B : Bas} {e : Expr} {t : TV} {tt : TTd}
theorem ev_scope (h : PE X e (liftE B t)) : PE X e (liftE B (dScope t)) := PE_mono h fun σ H Q hq => by
  obtain ⟨own, E, R, rep, ht, k⟩ := hq
  refine ⟨openO own, frzE E, _, rep.opn, ht, fun r E1 own1 v H1 q1 ev1 ra rep1 => ?_⟩
  obtain ⟨rep2, ev2⟩ := rep.shut rep1 ev1
  exact k r E _ v H1 q1.2 ev2 (shut_val rep rep1 ev1 q1.1 ra) rep2
theorem et_scope (h : PT X e (liftT B tt)) : PT X e (liftT B (dScopeT tt)) := PT_mono h fun σ H Q hq => by
  obtain ⟨own, E, R, rep, ht, k⟩ := hq
  refine ⟨openO own, frzE E, _, rep.opn, ht, fun b E1 own1 H1 q1 ev1 rep1 => ?_⟩
  obtain ⟨rep2, ev2⟩ := rep.shut rep1 ev1
  exact k b E _ H1 q1 ev2 rep2
end
end Kf

set_option Elab.async false
set_option linter.all false
set_option maxRecDepth 100000
set_option maxHeartbeats 2000000
namespace Kf
open PySem PySem.Spec PyProof.Rows L2 LamX NdefX
/-! ## calls of defs that are given a thing to change -/
section
variable {B : Bas} {own : Owns} {σ : L2.St} {H H' S' : Hp} {E E' : EnvD}
theorem Rep.resM {a : Addr} {w : Ow} {i0 : Nat} {os : List (Option PyData)} {v : V} {r : Rv} (R : Rep B own σ H E) (hw : own a = some w) (w1 : w ≠ .fr) (w2 : w ≠ .mu) (st : StpM B.T B.W [(i0, a)] (hid own H) H S' H') (rn : RvM B.K B.W [(i0, a)] os H S' H' v r) (oo : outsOk B.K S' H' [(i0, a)] os)
    (hl : E'.length = E.length) (hs : ∀ i r, E'[i]? = some (some r) → (E[i]? = some (some r) ∧ ∀ x, r = .o x → w ≠ .sl i) ∨ (w = .sl i ∧ ∃ x, r = .o x ∧ os = [some x] ∧ σ[i]? = some (some (.ref a)) ∧ ∃ x', E[i]? = some (some (.o x')))) :
    ∃ own', Rep B own' σ H' E' ∧ Evo own H own' H' ∧ RvAt B.K B.W own' H' .tmp v r := by
  have g1 : ∀ b, gvA [(i0, a)] b → b = a := fun b ⟨i, m⟩ => by
    have := List.mem_singleton.mp m
    exact congrArg Prod.snd this
  have ga : gvA [(i0, a)] a := ⟨i0, List.mem_singleton.mpr rfl⟩
  obtain ⟨P, eP⟩ : ∃ P : Addr → Prop, P = fun p => v = .ref p ∧ ∃ x, r = .o x := ⟨_, rfl⟩
  have hP : ∀ p, P p → ∃ x, r = .o x ∧ v = .ref p ∧ (H p = none ∨ p = a) ∧ S' p = none ∧ OwnAt B.K S' H' p x ∧ ∀ y, os = [some y] → a ≠ p := fun p h => by
    rw [eP] at h
    obtain ⟨h1, x, rfl⟩ := h
    obtain ⟨p', e1, e2, e3, e4, e5⟩ := rn
    rw [e1] at h1
    cases h1
    exact ⟨x, rfl, e1, e2.imp id (g1 _), e3, e4, fun y hy => by subst hy; exact e5 0 _ y rfl rfl⟩
  have dec : ∀ b, Decidable (P b) := fun b => Classical.propDecidable _
  have dec2 : ∀ b, Decidable (b = a ∧ S' b ≠ none) := fun b => Classical.propDecidable _
  obtain ⟨own', eo⟩ : ∃ own' : Owns, own' = fun b => if P b then some .tmp else if b = a ∧ S' b ≠ none then none else own b := ⟨_, rfl⟩
  have o1 : ∀ b, P b → own' b = some .tmp := fun b h => by rw [eo]; exact if_pos h
  have o2 : ∀ b, ¬ P b → b = a → S' b ≠ none → own' b = none := fun b h1 h2 h3 => by rw [eo]; show (if P b then _ else _) = _; rw [if_neg h1, if_pos ⟨h2, h3⟩]
  have o3 : ∀ b, ¬ P b → b ≠ a ∨ S' b = none → own' b = own b := fun b h1 h2 => by
    rw [eo]; show (if P b then _ else _) = _
    rw [if_neg h1, if_neg (fun z => h2.elim (fun q => q z.1) fun q => z.2 q)]
  have nP : ∀ b, b ≠ a → H b ≠ none → ¬ P b := fun b h1 h2 h => by
    obtain ⟨_, _, _, q, _⟩ := hP b h
    exact q.elim h2 h1
  have oth : ∀ b, b ≠ a → H b ≠ none → own' b = own b := fun b h1 h2 => o3 b (nP b h1 h2) (.inl h1)
  have keep : ∀ b u, H b = some u → b ≠ a → own b ≠ some .mu → (∀ ps, u ≠ .tbl ps) → H' b = some u := fun b u e h1 h2 n => st.sm.kp b u e (fun z => z.elim (fun m => h2 (R.wd.tg b m)) fun m => h1 (g1 b m)) n
  have ex : ExtN (hid own H) (hid own' H') := fun b u e n => by
    obtain ⟨h1, h2⟩ := hid_some e
    have nb : b ≠ a := fun z => by rw [z, hw] at h1; cases h1
    rw [hid_no (by rw [oth b nb (by rw [h2]; nofun)]; exact h1)]
    exact keep b u h2 nb (by rw [h1]; nofun) n
  have sub : ExtN S' (hid own' H') := fun b u e n => by
    have np : ¬ P b := fun h => by
      obtain ⟨_, _, _, _, q, _⟩ := hP b h
      rw [e] at q; cases q
    have hb : own' b = none := by
      by_cases z : b = a
      · exact o2 b np z (by rw [e]; nofun)
      · rw [o3 b np (.inl z)]
        cases q : own b with
        | none => rfl
        | some w' =>
          have h1 : H b ≠ none := fun y => by rw [R.al b y] at q; cases q
          have := st.sep b h1 (hid_own q) fun m => z (g1 b m)
          rw [e] at this; cases this
    rw [hid_no hb]
    exact st.sub b u e
  have evo : Evo own H own' H' := ⟨ex, fun b hb => by
    have nb : b ≠ a := fun z => by rw [z, hw] at hb; exact w1 (Option.some.inj hb)
    have hn : H b ≠ none := fun y => by rw [R.al b y] at hb; cases hb
    exact ⟨by rw [oth b nb hn]; exact hb, fun u e n => keep b u e nb (by rw [hb]; nofun) n⟩⟩
  have na0 : ∀ u, B.H0 a = some u → B.chg a := fun u e => by
    rcases R.nw a w hw with z | z | z | z
    · exact absurd z w1
    · exact absurd z w2
    · rw [z] at e; cases e
    · exact .inr z
  refine ⟨own', ⟨R.len.trans hl.symm, fun b e => ?_, ⟨fun b u e m n => ?_, fun b e => R.bs.nn b (st.sm.nn b e), fun t => st.sm.tb (R.bs.tb t)⟩, R.ss.trans ex, st.sm.tb R.tb, fun b h1 h2 h3 => ?_, fun b o e => ?_, ⟨fun b m => ?_, st.kp, R.wd.dj, fun b w' e => ?_⟩, fun i r' e => ?_, fun i b m x e => ?_⟩, evo, ?_⟩
  · have q := R.al b (st.sm.nn b e)
    have np : ¬ P b := fun h => by
      obtain ⟨_, _, _, _, _, q, _⟩ := hP b h
      exact q.there e
    have nb : b ≠ a := fun z => by rw [z, hw] at q; cases q
    rw [o3 b np (.inl nb)]; exact q
  · by_cases z : b = a
    · subst z
      exact absurd (na0 u e) m
    · have h1 := R.bs.kp b u e m n
      exact st.sm.kp b u h1 (fun y => y.elim (fun q => m (.inl q)) fun q => z (g1 b q)) n
  · have q := R.fr b h1 h2 h3
    have nb : b ≠ a := fun z => by rw [z, hw] at q; exact w1 (Option.some.inj q)
    have hn : H b ≠ none := fun y => by rw [R.al b y] at q; cases q
    rw [oth b nb hn]; exact q
  · by_cases hp : P b
    · obtain ⟨_, _, _, q, _⟩ := hP b hp
      rcases q with q | q
      · exact .inr (.inr (.inl (R.bs.nn b q)))
      · subst q
        rcases R.nw _ w hw with z | z | z
        · exact absurd z w1
        · exact absurd z w2
        · exact .inr (.inr z)
    · by_cases z : b = a ∧ S' b ≠ none
      · rw [o2 b hp z.1 z.2] at e; cases e
      · rw [o3 b hp (by
          by_cases y : b = a
          · exact .inr (Classical.byContradiction fun q => z ⟨y, q⟩)
          · exact .inl y)] at e
        exact R.nw b o e
  · have q := R.wd.tg b m
    have nb : b ≠ a := fun z => by rw [z, hw] at q; exact w2 (Option.some.inj q)
    have hn : H b ≠ none := fun y => by rw [R.al b y] at q; cases q
    rw [oth b nb hn]; exact q
  · by_cases hp : P b
    · obtain ⟨_, _, _, _, _, q, _⟩ := hP b hp
      exact .inr q.ldT
    · by_cases z : b = a
      · subst z
        by_cases y : S' b = none
        · exact .inr (st.nt b ga y)
        · rw [o2 b hp rfl y] at e; cases e
      · rw [o3 b hp (.inl z)] at e
        rcases Classical.em (muW B.W b) with m | m
        · exact .inl m
        · rcases R.wd.hl b w' e with q | ⟨u, h1, h2⟩
          · exact absurd q m
          · exact .inr ⟨u, st.sm.kp b u h1 (fun y => y.elim m fun q => z (g1 b q)) h2.nt, h2⟩
  · rcases hs i r' e with ⟨q, nq⟩ | ⟨rfl, x, rfl, rfl, h1, _⟩
    · obtain ⟨v', h1, h2⟩ := R.sl i r' q
      refine ⟨v', h1, ?_⟩
      cases r' with
      | o x =>
        obtain ⟨b, e1, e2, h3⟩ := h2
        have nb : b ≠ a := fun z => by
          rw [z, hw] at e2
          exact nq x rfl (Option.some.inj e2)
        have hn := h3.there
        refine ⟨b, e1, by rw [oth b nb hn]; exact e2, ?_⟩
        obtain ⟨u, hu, nt⟩ := h3.ldT
        exact h3.sm ex (by rw [hu]; exact keep b u hu nb (by rw [e2]; nofun) nt.nt)
      | d x => exact RvS.sm (K := B.K) (W := B.W) (r := .d x) ex h2
      | a φ => exact RvS.sm (K := B.K) (W := B.W) (r := .a φ) ex h2
      | ob C fs => exact RvS.sm (K := B.K) (W := B.W) (r := .ob C fs) ex h2
      | m c => exact h2
    · obtain ⟨hS, q⟩ := oo 0 (i0, a) x rfl rfl
      have hS : S' a = none := hS
      have np : ¬ P a := fun h => by
        obtain ⟨_, _, _, _, _, _, z⟩ := hP a h
        exact z x rfl rfl
      exact ⟨_, h1, a, rfl, by rw [o3 a np (.inr hS)]; exact hw, q.sm sub rfl⟩
  · rcases hs i _ e with ⟨q, nq⟩ | ⟨rfl, y, e2, _, h1, x', h2⟩
    · exact R.pin i b m x q
    · exact R.pin i b m x' h2
  · cases r with
    | o x =>
      obtain ⟨p, e1, e2, e3, e4, e5⟩ := rn
      have hp : P p := by rw [eP]; exact ⟨e1, x, rfl⟩
      exact ⟨p, e1, o1 p hp, e4.sm sub rfl⟩
    | d x => exact RvS.sm (K := B.K) (W := B.W) (r := .d x) sub rn
    | a φ => exact RvS.sm (K := B.K) (W := B.W) (r := .a φ) sub rn
    | ob C fs => exact RvS.sm (K := B.K) (W := B.W) (r := .ob C fs) sub rn
    | m c => exact rn
end
/-! ### the arguments: a hole where the given name stands; a last one that is one's own -/
abbrev TVh := EnvD → (List (Option Rv) → EnvD → Prop) → Prop
def liftH (B : Bas) (j : Nat) (t : TVh) : TA := fun σ H Q => ∃ own E R, Rep B own σ H E ∧ t E R ∧ ∀ rs E' own' vs H', R rs E' → Evo own H own' H' → Paired (fun v (r : Option Rv) => match r with | some r => RvAt B.K B.W own' H' .tmp v r | none => σ[j]? = some (some v)) vs rs → Rep B own' σ H' E' → Q vs H'
def hNil : TVh := fun E R => R [] E
def hCons (t : TV) (ts : TVh) : TVh := fun E R => t E fun r E1 => r.stb (fun r E1 => ts E1 fun rs E2 => R (some r :: rs) E2) E1
def hHole (j : Nat) (ts : TVh) : TVh := fun E R => lookD E j fun _ => ts E fun rs E2 => R (none :: rs) E2
def hLast (t : TV) : TVh := fun E R => t E fun r E1 => R [some r] E1
section
variable {X : Cx} {B : Bas} {e : Expr} {es : List Expr} {t : TV} {ts : TVh} {pos : Pos} {j : Nat}
theorem eh_nil : PA X [] (liftH B j hNil) := PA_mono pa_nil fun σ H Q hq => by
  obtain ⟨own, E, R, rep, ht, k⟩ := hq
  exact k [] E own [] H ht (Evo.refl _ _) .nil rep
theorem rvT {K : KW} {W : List Comp} {own : Owns} {H : Hp} {v : V} {r : Rv} (h : RvS K W (hid own H) v r) : RvAt K W own H .tmp v r := .of h
theorem eh_cons (ha : PE X e (liftE B t)) (hr : PA X es (liftH B j ts)) (hs : starEach (e :: es) X.env = (false, eval e X.env) :: starEach es X.env := by rfl) : PA X (e :: es) (liftH B j (hCons t ts)) := PA_mono (pa_cons (ev_S ha) hr hs) fun σ H Q hq => by
  obtain ⟨own, E, R, rep, ht, k⟩ := hq
  refine ⟨own, E, _, rep, ht, fun r E1 own1 v H1 q1 ev1 rs1 rep1 => ⟨own1, E1, _, rep1, q1, fun rs E2 own2 vs H2 q2 ev2 rs2 rep2 => ?_⟩⟩
  exact k (some r :: rs) E2 own2 (v :: vs) H2 q2 (ev1.trans ev2) (.cons (rvT (RvS.sm ev2.ex rs1)) rs2) rep2
theorem eh_hole (ha : PE X e (tVar j)) (hr : PA X es (liftH B j ts)) (hs : starEach (e :: es) X.env = (false, eval e X.env) :: starEach es X.env := by rfl) : PA X (e :: es) (liftH B j (hHole j ts)) := PA_mono (pa_cons ha hr hs) fun σ H Q hq => by
  obtain ⟨own, E, R, rep, ht, k⟩ := hq
  obtain ⟨v, x, hv, _, hx⟩ := look_da rep ht
  exact ⟨v, hv, own, E, _, rep, hx, fun rs E2 own2 vs H2 q2 ev2 rs2 rep2 => k (none :: rs) E2 own2 (v :: vs) H2 q2 ev2 (.cons hv rs2) rep2⟩
theorem eh_last (ha : PE X e (liftE B t)) (hs : starEach (e :: []) X.env = (false, eval e X.env) :: starEach [] X.env := by rfl) : PA X [e] (liftH B j (hLast t)) := PA_mono (pa_cons ha pa_nil hs) fun σ H Q hq => by
  obtain ⟨own, E, R, rep, ht, k⟩ := hq
  refine ⟨own, E, _, rep, ht, fun r E1 own1 v H1 q1 ev1 ra rep1 => ?_⟩
  exact k [some r] E1 own1 [v] H1 q1 ev1 (.cons ra .nil) rep1
/-- where the holes are; where what is one's own is -/
def holes : Nat → List (Option Rv) → List Nat
  | _, [] => []
  | n, none :: r => n :: holes (n + 1) r
  | n, some _ :: r => holes (n + 1) r
def ownAt : Nat → List (Option Rv) → List Nat
  | _, [] => []
  | n, some (.o _) :: r => n :: ownAt (n + 1) r
  | n, _ :: r => ownAt (n + 1) r
theorem holes_at : ∀ {as : List (Option Rv)} {n i : Nat}, as[i]? = some none → n + i ∈ holes n as
  | [], n, i, h => by cases h
  | none :: r, n, 0, h => by simp [holes]
  | some _ :: r, n, 0, h => by cases h
  | none :: r, n, i + 1, h => by
    have := holes_at (as := r) (n := n + 1) (i := i) h
    rw [show n + (i + 1) = n + 1 + i by omega]
    simp [holes, this]
  | some _ :: r, n, i + 1, h => by
    have := holes_at (as := r) (n := n + 1) (i := i) h
    rw [show n + (i + 1) = n + 1 + i by omega]
    simpa [holes] using this
theorem ownAt_at : ∀ {as : List (Option Rv)} {n i : Nat} {x : PyData}, as[i]? = some (some (.o x)) → n + i ∈ ownAt n as
  | [], n, i, x, h => by cases h
  | a :: r, n, 0, x, h => by
    cases h
    simp [ownAt]
  | a :: r, n, i + 1, x, h => by
    have := ownAt_at (as := r) (n := n + 1) (i := i) (x := x) h
    rw [show n + (i + 1) = n + 1 + i by omega]
    unfold ownAt
    split
    · rename_i h2; cases h2
    · rename_i h2; cases h2; exact List.mem_cons_of_mem _ this
    · rename_i h2; cases h2; exact this
def os1 (os : List (Option PyData)) (k : Option PyData → Prop) : Prop := match os with
  | [o] => k o
  | _ => False
/-- f(.., x, ..): x a name whose own thing f may change -/
def dCalW (n p0 j : Nat) (tf : List Rv → (Rv → List (Option PyData) → Prop) → Prop) (ts : TVh) : TV := fun E R => ts E fun as E1 => as.length = n ∧ holes 0 as = [p0] ∧ ownAt 0 as = [] ∧ match E1[j]? with
  | some (some (.o x)) => tf (as.map fun r => r.getD (.o x)) fun r os => os1 os fun o => R r (E1.set j (o.map Rv.o))
  | _ => False
/-- f(.., e): f may change what e has made -/
def dCalT (n p0 : Nat) (tf : List Rv → (Rv → List (Option PyData) → Prop) → Prop) (ts : TVh) : TV := fun E R => ts E fun as E1 => as.length = n ∧ holes 0 as = [] ∧ ownAt 0 as = [p0] ∧ tf (as.map fun r => r.getD (.d .none)) fun r os => os.length = 1 ∧ R r E1
theorem ev_calW {jj k n p0 : Nat} {x : Str} {ps : List Str} {p : Pos} {tf : List Rv → (Rv → List (Option PyData) → Prop) → Prop} (C : Cal X.prog X.w X.K X.mg X.base k x ps (spM B.T B.K n [p0] tf)) (hk : k ≤ jj) (hr : Room jj X.A) (hg : Gl X x) (ha : PA X (e :: es) (liftH B j ts)) (hdb : (x == ("__debug__" : Str)) = false := by decide)
    (he : starEach (e :: es) X.env = (false, eval e X.env) :: starEach es X.env := by rfl) (hpl : (backTo pos (starEach es X.env)).any (·.1) = false := by rfl) : PE X (.Call (.Name x p) (e :: es) [] pos) (liftE B (dCalW n p0 j tf ts)) := PE_mono (pe_cal C hk hr hg ha hdb he hpl) fun σ H Q hq => by
  obtain ⟨own, E, R, rep, ht, kk⟩ := hq
  refine ⟨own, E, _, rep, ht, fun as E1 own1 vs H1 q1 ev1 pr rep1 => ?_⟩
  obtain ⟨hn, hh, ho, q1⟩ := q1
  cases e1 : E1[j]? with
  | none => rw [e1] at q1; exact q1.elim
  | some u =>
    cases u with
    | none => rw [e1] at q1; exact q1.elim
    | some r0 =>
      rw [e1] at q1
      cases r0 with
      | o y =>
        obtain ⟨v0, hv0, a, rfl, w, q⟩ := rep1.sl j _ e1
        rw [List.append_nil]
        have hd := rep1.wf
        refine ⟨hid own1 H1, as.map fun r => r.getD (.o y), _, B.W, [(p0, a)], by rw [pairLen pr]; exact hn, hid_sub, rep1.tb, hd, rfl, ⟨fun p hp => ?_, by simp, by simp⟩, ⟨by rw [pairLen pr, List.length_map], fun i r er => ?_⟩, q1, fun r os v S' H' hk st rn oo => ?_⟩
        · rw [List.mem_singleton.mp hp]
          exact ⟨hid_own w, (fun m => by rw [rep1.wd.tg a m] at w; cases w), q.there⟩
        · rw [List.getElem?_map] at er
          cases ea : as[i]? with
          | none => rw [ea] at er; cases er
          | some s =>
            rw [ea] at er
            obtain ⟨v, h1, h2⟩ := pairGet pr ea
            refine ⟨v, h1, ?_⟩
            cases s with
            | none =>
              cases er
              have hi := holes_at (n := 0) ea
              rw [hh] at hi
              have hi : 0 + i = p0 := List.mem_singleton.mp hi
              have h2 : σ[j]? = some (some v) := h2
              rw [hv0] at h2
              cases h2
              exact ⟨a, rfl, by rw [← hi]; simp, q⟩
            | some s =>
              cases er
              cases s with
              | o z =>
                have hi := ownAt_at (n := 0) ea
                rw [ho] at hi
                cases hi
              | d z => exact h2
              | a φ => exact h2
              | ob C fs => exact h2
              | m c => exact h2
        · have hk : os1 os fun o => R r (E1.set j (o.map Rv.o)) := hk
          rcases os with _ | ⟨o, _ | ⟨o2, os⟩⟩
          · exact hk.elim
          · obtain ⟨own3, rep3, ev3, ra⟩ := rep1.resM (E' := E1.set j (o.map Rv.o)) w nofun nofun st rn oo (by simp) fun i r' er => by
              rcases set_at er with ⟨rfl, e2⟩ | ⟨ne, e2⟩
              · cases o with
                | none => cases e2
                | some x => cases e2; exact .inr ⟨rfl, x, rfl, rfl, hv0, y, e1⟩
              · exact .inl ⟨e2, fun x _ z => ne (Ow.sl.inj z).symm⟩
            exact kk r _ own3 v H' (show R r (E1.set j (o.map Rv.o)) from hk) (ev1.trans ev3) ra rep3
          · exact hk.elim
      | d y => exact q1.elim
      | a φ => exact q1.elim
      | ob C fs => exact q1.elim
      | m c => exact q1.elim
theorem ev_calT {jj k n p0 : Nat} {x : Str} {ps : List Str} {p : Pos} {tf : List Rv → (Rv → List (Option PyData) → Prop) → Prop} (C : Cal X.prog X.w X.K X.mg X.base k x ps (spM B.T B.K n [p0] tf)) (hk : k ≤ jj) (hr : Room jj X.A) (hg : Gl X x) (ha : PA X (e :: es) (liftH B 0 ts)) (hdb : (x == ("__debug__" : Str)) = false := by decide)
    (he : starEach (e :: es) X.env = (false, eval e X.env) :: starEach es X.env := by rfl) (hpl : (backTo pos (starEach es X.env)).any (·.1) = false := by rfl) : PE X (.Call (.Name x p) (e :: es) [] pos) (liftE B (dCalT n p0 tf ts)) := PE_mono (pe_cal C hk hr hg ha hdb he hpl) fun σ H Q hq => by
  obtain ⟨own, E, R, rep, ht, kk⟩ := hq
  refine ⟨own, E, _, rep, ht, fun as E1 own1 vs H1 q1 ev1 pr rep1 => ?_⟩
  obtain ⟨hn, hh, ho, q1⟩ := q1
  have one : ∃ (i : Nat) (y : PyData), as[i]? = some (some (.o y)) ∧ i = p0 := by
    have key : ∀ (l : List (Option Rv)) (n : Nat), ownAt n l = [p0] → ∃ (i : Nat) (y : PyData), l[i]? = some (some (.o y)) ∧ n + i = p0 := fun l => by
      induction l with
      | nil => intro n h; simp [ownAt] at h
      | cons a r ih =>
        intro n h
        have next : ownAt (n + 1) r = [p0] → ∃ (i : Nat) (y : PyData), (a :: r)[i]? = some (some (.o y)) ∧ n + i = p0 := fun h => by
          obtain ⟨i, y, h4, h5⟩ := ih (n + 1) h
          exact ⟨i + 1, y, h4, by omega⟩
        cases a with
        | none => exact next h
        | some s =>
          cases s with
          | o z => exact ⟨0, z, rfl, by have := (List.cons.inj (show n :: ownAt (n + 1) r = [p0] from h)).1; omega⟩
          | d z => exact next h
          | a φ => exact next h
          | ob C fs => exact next h
          | m c => exact next h
    obtain ⟨i, y, h1, h2⟩ := key as 0 ho
    exact ⟨i, y, h1, by omega⟩
  obtain ⟨i1, y, hi, rfl⟩ := one
  obtain ⟨v0, hv0, p2⟩ := pairGet pr hi
  obtain ⟨a, rfl, w, q⟩ := p2
  rw [List.append_nil]
  refine ⟨hid own1 H1, as.map fun r => r.getD (.d .none), _, B.W, [(i1, a)], by rw [pairLen pr]; exact hn, hid_sub, rep1.tb, rep1.wf, rfl, ⟨fun p hp => ?_, by simp, by simp⟩, ⟨by rw [pairLen pr, List.length_map], fun i r er => ?_⟩, q1, fun r os v S' H' hk st rn oo => ?_⟩
  · rw [List.mem_singleton.mp hp]
    exact ⟨hid_own w, (fun m => by rw [rep1.wd.tg a m] at w; cases w), q.there⟩
  · rw [List.getElem?_map] at er
    cases ea : as[i]? with
    | none => rw [ea] at er; cases er
    | some s =>
      rw [ea] at er
      obtain ⟨v, h1, h2⟩ := pairGet pr ea
      refine ⟨v, h1, ?_⟩
      cases s with
      | none =>
        have hi := holes_at (n := 0) ea
        rw [hh] at hi
        cases hi
      | some s =>
        cases er
        cases s with
        | o z =>
          have hi2 := ownAt_at (n := 0) ea
          rw [ho] at hi2
          have hi2 : 0 + i = i1 := List.mem_singleton.mp hi2
          have e2 : i = i1 := by omega
          subst e2
          rw [hv0] at h1
          cases h1
          rw [hi] at ea
          cases ea
          exact ⟨a, rfl, by simp, q⟩
        | d z => exact h2
        | a φ => exact h2
        | ob C fs => exact h2
        | m c => exact h2
  · obtain ⟨own3, rep3, ev3, ra⟩ := rep1.resM (E' := E1) w nofun nofun st rn oo rfl fun i r' er => .inl ⟨er, fun x _ z => by cases z⟩
    exact kk r _ own3 v H' hk.2 (ev1.trans ev3) ra rep3
end
end Kf

set_option Elab.async false
set_option linter.all false
set_option maxRecDepth 100000
set_option maxHeartbeats 2000000
/-! ## enumerate of a tuple -/
namespace PySem
open Sem (wp)
open AutoSeq1 (wpAny_loadPart')
theorem Kf.meets_enumT (l : Addr) (items : Array Value) (n : Nat) (dct : Option Addr) (sl : Array (Option Value)) :
    Meets (Builtin.«enumerate.__new__» ⟨[.type "enumerate", .ref l], []⟩) (fun _ R s => s.heap.get? l = some { cls := .type "tuple", dict := dct, data := .seq items n, slots := sl } ∧
      R (.ok (.ret (.ref (s.heap.push { cls := .type "tuple_iterator", data := .fields #[.ref l, .int 0 0] }).objs.size)))
        { s with heap := (s.heap.push { cls := .type "tuple_iterator", data := .fields #[.ref l, .int 0 0] }).push { cls := .type "enumerate", data := .fields #[.none, .bool false, .ref s.heap.objs.size, rawInt 0, .none, .none] } }) :=
  .of_wp fun prog w A R s h => by
    obtain ⟨hp, g, d, tk, os⟩ := s; obtain ⟨hl, h⟩ := h
    have hsub := sub_enumerate
    have hL : Heap.IsTuple (Shared.heap ⟨hp, g, d, tk, os⟩) l items := ⟨_, hl, rfl, n, rfl⟩
    wp_walk using wpAny_loadPart' hl
    refine wpAny_stack_any fun st => wpAny_pure ?_
    split
    · rename_i c _ _ _ _ _
      cases (c == Value.type "enumerate")
      · wp_walk using wpAny_loadPart' hl, wpAny_pyIter_tuple hL
        exact ⟨_, rfl, h⟩
      · wp_walk using wpAny_loadPart' hl, wpAny_pyIter_tuple hL
        exact ⟨_, rfl, h⟩
    · wp_walk using wpAny_loadPart' hl, wpAny_pyIter_tuple hL
      exact ⟨_, rfl, h⟩
section
variable {prog : Program} {w : World} {A : Around} {E : Value → Shared → Prop} {s : Shared}
theorem Kf.call_enumT {l : Addr} {items : Array Value} {Q : Value → Shared → Prop} (hL : s.heap.IsTuple l items)
    (h : ∀ h', IsEnum h' (s.heap.objs.size + 1) s.heap.objs.size 0 .none → h'.IsTupleIter s.heap.objs.size l 0 → h'.objs.size = s.heap.objs.size + 2 →
      (∀ b o, s.heap.get? b = some o → h'.get? b = some o) → Q (.ref (s.heap.objs.size + 1)) { s with heap := h' }) :
    wpAny (model prog w) A (call (.type "enumerate") [.ref l]) Q E s := by
  obtain ⟨⟨c, dct, dt, sl⟩, hl, hc, n, hd⟩ := hL
  replace hc : c = .type "tuple" := hc
  replace hd : dt = .seq items n := hd
  subst hc hd
  refine callType_new F.called_enumerate (by decide) (F.typeCall_enumerate_1 _) (F.newCall_enumerate_1 _) (fun obj => F.args_object_init_2 obj _) F.entry_enumerate_new
    (Kf.meets_enumT l items n dct sl) ⟨hl, ?_⟩
  have hz : (s.heap.push { cls := .type "tuple_iterator", data := .fields #[.ref l, .int 0 0] }).objs.size = s.heap.objs.size + 1 := Heap.size_push ..
  show _ ∧ _
  rw [hz]
  have he : IsEnum ((s.heap.push { cls := .type "tuple_iterator", data := .fields #[.ref l, .int 0 0] }).push
      { cls := .type "enumerate", data := .fields #[.none, .bool false, .ref s.heap.objs.size, rawInt 0, .none, .none] }) (s.heap.objs.size + 1) s.heap.objs.size 0 .none := by
    have := Heap.get?_push_size (s.heap.push { cls := .type "tuple_iterator", data := .fields #[.ref l, .int 0 0] })
      (o := { cls := .type "enumerate", data := .fields #[.none, .bool false, .ref s.heap.objs.size, rawInt 0, .none, .none] }) rfl
    rw [hz] at this; exact this
  refine ⟨⟨_, he, rfl⟩, h _ he ⟨_, Heap.get?_push_of_some _ (Heap.get?_push_size _ rfl), rfl, rfl⟩ (by rw [Heap.size_push, hz]) fun b o x => Heap.get?_push_of_some _ (Heap.get?_push_of_some _ x)⟩
theorem Kf.next_enumT_end {e it l : Addr} {i : Nat} {items : Array Value} {old : Value} {Q : Option Value → Shared → Prop} (hh : A.handled = none)
    (he : IsEnum s.heap e it i old) (hit : s.heap.IsTupleIter it l i) (hl : s.heap.IsTuple l items) (hx : items[i]? = none)
    (hQ : ∀ h', Heap.ExtBut it s.heap h' → Q none { s with heap := h' }) : wpAny (model prog w) A (pyNext (.ref e)) Q E s := by
  have hT : s.TypeIs (.ref e) "enumerate" := ⟨_, he, rfl⟩
  unfold pyNext
  refine wpAny_bind (wpAny_attempt (wpAny_callSpecial?_slot (name := Str.ofString "__next__") hT F.slot_enumerate_next
    (wpAny_call_entry F.slot_enumerate_next hT F.entry_enumerate_next ?_ (F.args_enumerate_next_1 _))))
  show wpAny _ _ (field (.ref e) 2 >>= _) _ _ _
  refine wpAny_bind (wpAny_field he rfl (x := .ref it) rfl ?_)
  refine wpAny_bind (RZ.nextOf_tuple_end hh hit hl hx fun h' x he' hx' => ?_)
  obtain ⟨o, ho, hc⟩ := hx'
  refine wpAny_bind (wpAny_isInstance (T := "StopIteration") (b := true) ⟨o, ho, hc⟩ isSubtype_stop ?_)
  exact wpAny_pure (hQ _ he')
end
end PySem
namespace Kf
open PySem PySem.Spec PyProof.Rows L2
def IteT (K : PySem.W.Frag) (a : Addr) : It :=
  ⟨fun i H => ∃ (xs : List V) (x : V), SqT K H a xs ∧ xs[i]? = some x, fun i H v H' => ∃ T x, v = .ref T ∧ H T = none ∧ H' = upd H T (.tup [.int (i : Nat), x]) ∧ ∀ xs, SqT K H a xs → xs[i]? = some x, fun i H => ∃ xs : List V, SqT K H a xs ∧ xs.length ≤ i⟩
theorem turn_enumT {P : Program} {w : World} {K : PySem.W.Frag} {elts : List Expr} {kk : Nat} {tpos : Pos} (a e it : Addr) :
    Turn P w K (.Tuple elts kk tpos) (IteT K a) [e, it] e (fun i h => (∃ old, IsEnum h e it ((i : Nat) : Int) old) ∧ h.IsTupleIter it a i ∧ e ≠ it) where
  mem := by simp
  obj := fun i h st b hb => by
    obtain ⟨⟨old, he⟩, ⟨o, ho, hc, hd⟩, _⟩ := st
    have e' : b = e ∨ b = it := by simpa using hb
    rcases e' with z | z
    · rw [z]; exact ⟨_, he, fun v q => nomatch q⟩
    · rw [z]; exact ⟨o, ho, fun v q => by rw [hd] at q; cases q⟩
  keep := fun i h h' st k => let ⟨⟨old, he⟩, hi, hne⟩ := st; ⟨⟨old, k e (by simp) _ he⟩, hi.at fun o q => k it (by simp) o q, hne⟩
  item := by
    intro X hP hw hK hc i pins s σ H E I hf st hg
    subst hP hw hK
    obtain ⟨⟨old, he⟩, hit, hne⟩ := st
    obtain ⟨xs, x, hq, hx⟩ := hg
    obtain ⟨its, rv, p, hz⟩ := I.tuple hq
    obtain ⟨u, hu, ru⟩ := rv.get hx
    have ht : s.heap.IsTuple a its.toArray := p
    have hel : e < s.heap.objs.size := Heap.lt_size he
    have hil : it < s.heap.objs.size := by obtain ⟨_, q, _⟩ := hit; exact Heap.lt_size q
    have nat : a ≠ it := by
      rintro rfl
      obtain ⟨o, ho, c1, _⟩ := ht
      obtain ⟨o2, ho2, c2, _⟩ := hit
      rw [ho] at ho2
      cases ho2
      rw [c1] at c2
      exact absurd (Value.type.inj c2) (by decide)
    have nae : e ≠ a := by
      rintro rfl
      obtain ⟨o, ho, c1, _⟩ := ht
      rw [he] at ho
      cases ho
      exact absurd (Value.type.inj c1) (by decide)
    have hh : X.A.in1.handled = none := I.ok.hd hc
    have hlt : i < its.toArray.size := by
      rcases Nat.lt_or_ge i its.length with h | h
      · simpa using h
      · rw [List.getElem?_eq_none h] at hu; cases hu
    refine wpAny_pyNext_enum_itemD (Draws.tuple hh it a nat its.toArray) he ⟨hit, ht⟩ hlt hne (by simp [hne, nae]) fun x2 h' tk hP ho st' hT hsz hk => ?_
    obtain rfl : u = x2 := by
      have : its.toArray[i]? = some x2 := hP
      rw [List.getElem?_toArray, hu] at this
      exact Option.some.inj this
    obtain ⟨hit', _⟩ := st'
    refine ⟨_, rfl, wpAny_letOwnedTupleGo_enum (s := { s with heap := h', toks := tk + 1 }) ho fun h'' he' sb => ?_⟩
    have hT2 : h''.get? s.heap.objs.size = some { cls := .type "tuple", data := .seq #[.int i tk, u] } := (sb.2 _ (Nat.ne_of_gt hel)).trans hT
    have new : ObjOk X.prog X.w (upd H s.heap.objs.size (.tup [.int (i : Nat), x])) h'' s.heap.objs.size (.tup [.int (i : Nat), x]) :=
      ⟨by show 2 ≤ sizeLine; decide, [.int i tk, u], .cons ⟨_, rfl⟩ (.cons ru .nil), ⟨_, hT2, rfl, _, rfl⟩⟩
    have I1 : Inv X pins σ (upd H s.heap.objs.size (.tup [.int (i : Nat), x])) { s with heap := h'', toks := tk + 1 } :=
      I.turnedNew (ch := [e, it]) (fun b ob hb q => (sb.2 b (fun z => hb (by simp [z]))).trans (hk b ob (fun z => hb (by simp [z])) (fun z => hb (by simp [z])) q)) hf (Nat.le_refl _) new
    refine ⟨.ref s.heap.objs.size, _, I1, rfl, ⟨_, x, rfl, I.hok.fresh (Nat.le_refl _), rfl, fun ys hy => by rw [I.tuple_inj hy hq]; exact hx⟩, ⟨⟨u, ?_⟩, hit'.at fun o q => (sb.2 it (Ne.symm hne)).trans q, hne⟩, fun b hb => ?_⟩
    · have e1 : ((i + 1 : Nat) : Int) = (i : Int) + 1 := by omega
      rw [e1]; exact he'
    · have hb' : b < s.heap.objs.size := by
        have e' : b = e ∨ b = it := by simpa using hb
        rcases e' with z | z
        · rw [z]; exact hel
        · rw [z]; exact hil
      rw [upd_ne (Nat.ne_of_lt hb')]
      exact (hf b hb).1
  done := by
    intro X hP hw hK hc i pins s σ H E I hf st hg
    subst hP hw hK
    obtain ⟨⟨old, he⟩, hit, hne⟩ := st
    obtain ⟨xs, hq, hx⟩ := hg
    obtain ⟨its, rv, p, hz⟩ := I.tuple hq
    obtain ⟨f0, f1, f2, f3, f4, f5⟩ := hf it (by simp)
    have hl := rv.length
    exact Kf.next_enumT_end (I.ok.hd hc) he hit (show s.heap.IsTuple a its.toArray from p) (by simp; omega) fun h' eb => ⟨rfl, I.turned (t' := s.toks) (fun b o hb q => eb b o hb q) f0 f1 f3 f4 f5⟩
  self := fun A i s Q E st h => let ⟨⟨_, he⟩, _⟩ := st; wpAny_pyIter_enum he h
theorem walk_enumT {K : PySem.W.Frag} {a : Addr} {xs : List V} : Walk (IteT K a) xs.length (fun H => SqT K H a xs) (YPair (fun i => some (.int (i : Nat))) (fun i => xs[i]?)) := by
  refine ⟨fun i _ hi q => ⟨xs, xs[i], q, by simp [hi]⟩, fun _ q => ⟨xs, q, Nat.le_refl _⟩, fun i H v H' _ q y => ?_⟩
  obtain ⟨T, x, h1, h2, h3, h4⟩ := y
  exact ⟨T, .int (i : Nat), x, h1, h2, h3, rfl, h4 xs q⟩
/-! enumerate of a list or a tuple -/
def IteB (b : Bool) (K : PySem.W.Frag) (a : Addr) : It := if b = true then Ite K a else IteT K a
theorem walk_enumQ {b : Bool} {K : PySem.W.Frag} {a : Addr} {xs : List V} : Walk (IteB b K a) xs.length (fun H => Sqb b K H a xs) (YPair (fun i => some (.int (i : Nat))) (fun i => xs[i]?)) := by
  cases b with
  | true => exact walk_enum
  | false => exact walk_enumT
def iEnumQ (K : PySem.W.Frag) (ta : TA) : TI := fun σ H R => ta σ H fun vs H1 => ∃ a b, vs = [.ref a] ∧ (∃ xs, Sqb b K H1 a xs) ∧ R (IteB b K a) H1
theorem pi_enumQ {X : Cx} {e : Expr} {ta : TA} {p pos tpos : Pos} {elts : List Expr} {kk : Nat} (hg : Gl X "enumerate") (hm : X.mg "enumerate" = none) (ha : PA X [e] ta) (hs : starEach [e] X.env = [(false, eval e X.env)] := by rfl) :
    PI X (.Tuple elts kk tpos) (.Call (.Name "enumerate" p) [e] [] pos) (iEnumQ X.K ta) := by
  refine ⟨fun pins s σ H R I h => ?_⟩
  refine Call_ (ld_blt I hg hm boot_enumerate (PyProof.Rows.callWith_type1 (thn (ha.run pos pins s σ H _ I h) fun us s1 ⟨vs, H1, I1, r1, q1⟩ => ?_) hs rfl))
  obtain ⟨a, b, ex, ⟨xs, hq⟩, q⟩ := q1
  subst ex
  cases r1 with
  | cons r rr =>
    cases rr
    cases r
    have fp : ∀ b ∈ [s1.heap.objs.size + 1, s1.heap.objs.size], FpOk X pins H1 b := fun b hb => by
      have e' : b = s1.heap.objs.size + 1 ∨ b = s1.heap.objs.size := by simpa using hb
      have hle : s1.heap.objs.size ≤ b := by
        rcases e' with z | z
        · rw [z]; exact Nat.le_add_right _ _
        · rw [z]; exact Nat.le_refl _
      exact I1.fpOk hle (I1.hok.fresh hle)
    cases b with
    | true =>
      have hq : SqL X.K H1 a xs := hq
      obtain ⟨its, rv, p', hz⟩ := I1.list hq
      refine call_enumerate_list p'.isList fun h' he hit hsz hk => wpAny_pyIter_enum he ?_
      have I2 : Inv X pins σ H1 { s1 with heap := h' } := I1.kept (t' := s1.toks) hk
      exact ⟨s1.heap.objs.size + 1, [s1.heap.objs.size + 1, s1.heap.objs.size], _, _, H1, rfl, I2, turn_enum a (s1.heap.objs.size + 1) s1.heap.objs.size, ⟨⟨.none, he⟩, hit, Nat.succ_ne_self _⟩, fp, q⟩
    | false =>
      have hq : SqT X.K H1 a xs := hq
      obtain ⟨its, rv, p', hz⟩ := I1.tuple hq
      refine Kf.call_enumT (show s1.heap.IsTuple a its.toArray from p') fun h' he hit hsz hk => wpAny_pyIter_enum he ?_
      have I2 : Inv X pins σ H1 { s1 with heap := h' } := I1.kept (t' := s1.toks) hk
      exact ⟨s1.heap.objs.size + 1, [s1.heap.objs.size + 1, s1.heap.objs.size], _, _, H1, rfl, I2, turn_enumT a (s1.heap.objs.size + 1) s1.heap.objs.size, ⟨⟨.none, he⟩, hit, Nat.succ_ne_self _⟩, fp, q⟩
end Kf

set_option Elab.async false
set_option linter.all false
set_option maxRecDepth 100000
set_option maxHeartbeats 2000000
namespace Kf
open PySem PySem.Spec PyProof.Rows L2 LamX NdefX
/-! ## pairs of names, enumerate, reversed, dict displays -/
section
variable {B : Bas} {own : Owns} {σ : L2.St} {H H' : Hp} {E : EnvD} {D : Addr}
/-- what was pinned is handed on (also what was given) -/
theorem Rep.unpinG (R : Rep B own σ H E) (w : own D = some .fr) (n0 : B.H0 D = none ∨ gvA B.gv D) : Rep B (own.set D (some .tmp)) σ H E ∧ hid (own.set D (some .tmp)) H = hid own H := by
  have eh : hid (own.set D (some .tmp)) H = hid own H := by
    funext b
    by_cases z : b = D
    · subst z; rw [hid_own w, hid_own Owns.set_same]
    · unfold hid; rw [Owns.set_ne z]
  refine ⟨⟨R.len, fun b e => ?_, R.bs, by rw [eh]; exact R.ss, R.tb, fun b h1 h2 h3 => ?_, fun b u e => ?_, R.wd.ext0 (fun b hb => by
    rw [Owns.set_ne (fun z => by subst z; rw [w] at hb; cases hb)]
    exact hb) (fun b w1 e => by
    by_cases z : b = D
    · subst z; exact ⟨_, w⟩
    · rw [Owns.set_ne z] at e
      exact ⟨w1, e⟩), fun i r e => ?_, R.pin⟩, eh⟩
  · have q := R.al b e
    have nb : b ≠ D := fun z => by subst z; rw [w] at q; cases q
    rw [Owns.set_ne nb]
    exact q
  · rw [Owns.set_ne (fun z => by
      subst z
      rcases n0 with n0 | n0
      · exact h1 n0
      · exact h3 (.inr n0))]
    exact R.fr b h1 h2 h3
  · by_cases z : b = D
    · subst z
      exact .inr (.inr n0)
    · rw [Owns.set_ne z] at e
      exact R.nw b u e
  · obtain ⟨v, h1, h2⟩ := R.sl i r e
    refine ⟨v, h1, ?_⟩
    cases r with
    | o y =>
      obtain ⟨b, e1, e2, h3⟩ := h2
      have nb : b ≠ D := fun z => by subst z; rw [w] at e2; cases e2
      exact ⟨b, e1, by rw [Owns.set_ne nb]; exact e2, h3.sm (by rw [eh]; exact .refl _) rfl⟩
    | d x => exact RvS.sm (K := B.K) (W := B.W) (r := .d x) (by rw [eh]; exact .refl _) h2
    | a φ => exact RvS.sm (K := B.K) (W := B.W) (r := .a φ) (by rw [eh]; exact .refl _) h2
    | ob C fs => exact RvS.sm (K := B.K) (W := B.W) (r := .ob C fs) (by rw [eh]; exact .refl _) h2
    | m c => exact h2
/-- a value set aside: if it is one's own, it is pinned -/
def Aside (B : Bas) (own : Owns) (H : Hp) (v : V) : Rv → Prop
  | .o x => ∃ a, v = .ref a ∧ own a = some .fr ∧ (B.H0 a = none ∨ gvA B.gv a) ∧ OwnAt B.K (hid own H) H a x
  | r => RvS B.K B.W (hid own H) v r
theorem Rep.aside {v : V} {r : Rv} (R : Rep B own σ H E) (h : RvAt B.K B.W own H .tmp v r) : ∃ own', Rep B own' σ H E ∧ Evo own H own' H ∧ Aside B own' H v r ∧ ∀ a x, r = .o x → v = .ref a → own a = some .tmp := by
  cases r with
  | o x =>
    obtain ⟨a, rfl, w, q⟩ := h
    have n0 : B.H0 a = none ∨ gvA B.gv a := by
      rcases R.nw a _ w with z | z | z
      · cases z
      · cases z
      · exact z
    have eh : hid (own.set a (some .fr)) H = hid own H := by
      funext b
      by_cases z : b = a
      · subst z; rw [hid_own w, hid_own Owns.set_same]
      · unfold hid; rw [Owns.set_ne z]
    have nt : ∀ b, own b ≠ some .tmp → own.set a (some .fr) b = own b := fun b h => Owns.set_ne fun z => by subst z; exact h w
    refine ⟨own.set a (some .fr), ⟨R.len, fun b e => ?_, R.bs, by rw [eh]; exact R.ss, R.tb, fun b h1 h2 h3 => ?_, fun b u e => ?_, R.wd.ext0 (fun b hb => by rw [nt b (by rw [hb]; nofun)]; exact hb) (fun b w1 e => by
      by_cases z : b = a
      · subst z; exact ⟨_, w⟩
      · rw [Owns.set_ne z] at e
        exact ⟨w1, e⟩), fun i r e => ?_, R.pin⟩, ⟨by rw [eh]; exact .refl _, fun b hb => ⟨by rw [nt b (by rw [hb]; nofun)]; exact hb, fun _ e _ => e⟩⟩, ⟨a, rfl, Owns.set_same, n0, q.sm (by rw [eh]; exact .refl _) rfl⟩, fun b _ _ e => by cases e; exact w⟩
    · have q := R.al b e
      rw [nt b (by rw [q]; nofun)]; exact q
    · have q := R.fr b h1 h2 h3
      rw [nt b (by rw [q]; nofun)]; exact q
    · by_cases z : b = a
      · subst z; rw [Owns.set_same] at e; exact .inl (Option.some.inj e).symm
      · rw [Owns.set_ne z] at e; exact R.nw b u e
    · obtain ⟨v, h1, h2⟩ := R.sl i r e
      refine ⟨v, h1, ?_⟩
      cases r with
      | o y =>
        obtain ⟨b, e1, e2, h3⟩ := h2
        exact ⟨b, e1, by rw [nt b (by rw [e2]; nofun)]; exact e2, h3.sm (by rw [eh]; exact .refl _) rfl⟩
      | d x => exact RvS.sm (K := B.K) (W := B.W) (r := .d x) (by rw [eh]; exact .refl _) h2
      | a φ => exact RvS.sm (K := B.K) (W := B.W) (r := .a φ) (by rw [eh]; exact .refl _) h2
      | ob C fs => exact RvS.sm (K := B.K) (W := B.W) (r := .ob C fs) (by rw [eh]; exact .refl _) h2
      | m c => exact h2
  | d x => exact ⟨own, R, Evo.refl _ _, h, fun a x e => by cases e⟩
  | a φ => exact ⟨own, R, Evo.refl _ _, h, fun a x e => by cases e⟩
  | ob C fs => exact ⟨own, R, Evo.refl _ _, h, fun a x e => by cases e⟩
  | m c => exact ⟨own, R, Evo.refl _ _, h, fun a x e => by cases e⟩
theorem Aside.evo {own' : Owns} {v : V} {r : Rv} (h : Aside B own H v r) (ev : Evo own H own' H') : Aside B own' H' v r := by
  cases r with
  | o x =>
    obtain ⟨a, rfl, w, n0, q⟩ := h
    obtain ⟨w', k⟩ := ev.fr a w
    obtain ⟨u, hu, nt⟩ := q.ldT
    exact ⟨a, rfl, w', n0, q.sm ev.ex (by rw [hu, k u hu nt.nt])⟩
  | d x => exact RvS.sm (K := B.K) (W := B.W) (r := .d x) ev.ex h
  | a φ => exact RvS.sm (K := B.K) (W := B.W) (r := .a φ) ev.ex h
  | ob C fs => exact RvS.sm (K := B.K) (W := B.W) (r := .ob C fs) ev.ex h
  | m c => exact h
theorem Rep.back1 {v : V} {r : Rv} (R : Rep B own σ H E) (h : Aside B own H v r) : ∃ own', Rep B own' σ H E ∧ hid own' H = hid own H ∧ RvAt B.K B.W own' H .tmp v r ∧ ∀ b, own' b = own b ∨ (v = .ref b ∧ ∃ x, r = .o x) := by
  cases r with
  | o x =>
    obtain ⟨a, rfl, w, n0, q⟩ := h
    obtain ⟨R', eh⟩ := R.unpinG w n0
    refine ⟨_, R', eh, ⟨a, rfl, Owns.set_same, q.sm (by rw [eh]; exact .refl _) rfl⟩, fun b => ?_⟩
    by_cases z : b = a
    · exact .inr ⟨by rw [z], x, rfl⟩
    · exact .inl (Owns.set_ne z)
  | d x => exact ⟨own, R, rfl, h, fun _ => .inl rfl⟩
  | a φ => exact ⟨own, R, rfl, h, fun _ => .inl rfl⟩
  | ob C fs => exact ⟨own, R, rfl, h, fun _ => .inl rfl⟩
  | m c => exact ⟨own, R, rfl, h, fun _ => .inl rfl⟩
/-- what was set aside comes back -/
theorem Rep.comeback {own0 own1 : Owns} {H0 H1 : Hp} {v : V} {r : Rv} (R : Rep B own σ H E) (h : Aside B own H v r) (e0 : Evo own0 H0 own1 H1) (tm : ∀ a x, r = .o x → v = .ref a → own1 a = some .tmp) (e1 : Evo own0 H0 own H) : ∃ own', Rep B own' σ H E ∧ Evo own0 H0 own' H ∧ hid own' H = hid own H ∧ RvAt B.K B.W own' H .tmp v r := by
  obtain ⟨own', R', eh, ra, st⟩ := R.back1 h
  refine ⟨own', R', ⟨by rw [eh]; exact e1.ex, fun b hb => ⟨?_, (e1.fr b hb).2⟩⟩, eh, ra⟩
  rcases st b with z | ⟨z, x, hx⟩
  · rw [z]; exact (e1.fr b hb).1
  · have := tm b x hx z
    rw [(e0.fr b hb).1] at this
    cases this
end
section
variable {X : Cx} {B : Bas} {a b c e : Expr} {t1 t2 : TV} {st : Stmt} {pos : Pos}
/-- a, b = e, f -/
def sPar (i1 : Nat) (t1 : TV) (i2 : Nat) (t2 : TV) : TSD := fun D E => t1 E fun r1 E1 => t2 E1 fun r2 E2 => (i1 < E2.length ∧ i2 < E2.length) ∧ D.nx ((E2.set i2 (some r2)).set i1 (some r1))
theorem es_par {i1 i2 : Nat} (h1 : ∀ a, (i1, a) ∉ B.gv) (h2 : ∀ a, (i2, a) ∉ B.gv) (hne : i1 ≠ i2) (h : PS X st (tPar i1 i2 (tCons (liftE B t1) (tCons (liftE B t2) tNil)))) : PS X st (liftS B (sPar i1 t1 i2 t2)) := PS_mono h fun D σ H hq => by
  obtain ⟨own, E, De, rep, ht, k1, k2, k3, k4⟩ := hq
  refine ⟨own, E, _, rep, ht, fun r1 E1 own1 v1 H1 q1 ev1 ra1 rep1 => ?_⟩
  obtain ⟨ownA, repA, evA, asd, tm⟩ := rep1.aside ra1
  refine ⟨ownA, E1, _, repA, q1, fun r2 E2 own2 v2 H2 q2 ev2 ra2 rep2 => ⟨v1, v2, rfl, ?_⟩⟩
  have asd2 := asd.evo ev2
  obtain ⟨own4, rep4, ev4⟩ := rep2.put ra2 q2.1.2 h2
  have asd4 := asd2.evo ev4
  have evs : Evo own H own4 _ := (((ev1.trans evA).trans ev2).trans ev4)
  obtain ⟨own5, rep5, ev5, eh, ra5⟩ := rep4.comeback asd4 ev1 tm evs
  obtain ⟨own6, rep6, ev6⟩ := rep5.put ra5 (by simpa using q2.1.1) h1
  have e : (σ.set i1 (some v1)).set i2 (some v2) = (σ.set i2 (some v2)).set i1 (some v1) := List.set_comm _ _ hne
  rw [e]
  exact k1 own6 _ _ _ q2.2 (ev5.trans ev6) rep6
/-- a, b = e: e data -/
def sAsg (te : TV) (tg : TGD) : TSD := fun D E => te E fun r E1 => r.toD (fun d E1 => tg d E1 D.nx) E1
theorem es_asg {g : TG} {tg : TGD} {sl : List Nat} (hg : GD B g tg sl) (h : PS X st (tAsg (liftD B t1) g)) : PS X st (liftS B (sAsg t1 tg)) := PS_mono h fun D σ H hq => by
  obtain ⟨own, E, De, rep, ht, k1, k2, k3, k4⟩ := hq
  refine ⟨own, E, _, rep, ht, fun d E1 own1 v H1 q1 ev1 da rep1 => ?_⟩
  exact hg.run v d own1 σ H1 E1 _ _ rep1 da q1 fun σ2 E2 q2 rep2 _ _ => k1 own1 E2 σ2 H1 q2 ev1 rep2
/-! ### enumerate -/
def enumD (i : Nat) : List PyData → List PyData
  | [] => []
  | d :: r => .tuple [.int i, d] :: enumD (i + 1) r
theorem enumD_len : ∀ (l : List PyData) (i : Nat), (enumD i l).length = l.length
  | [], _ => rfl
  | _ :: r, i => congrArg (· + 1) (enumD_len r (i + 1))
theorem enumD_get : ∀ (l : List PyData) (i j : Nat) (d : PyData), l[j]? = some d → (enumD i l)[j]? = some (.tuple [.int ((i + j : Nat) : Int), d])
  | [], _, _, _, h => by cases h
  | x :: r, i, 0, d, h => by cases h; rfl
  | x :: r, i, j + 1, d, h => by
    have := enumD_get r (i + 1) j d h
    rw [show i + (j + 1) = i + 1 + j by omega]
    exact this
def dEnum (ts : TVs) : TID := fun E R => ts E fun rs E1 => toDs rs fun ds => match ds with
  | [d] => match itemsD d with
    | some xs => R (enumD 0 xs) E1
    | none => False
  | _ => False
theorem wk_enum {own1 : Owns} {H1 : Hp} {a : Addr} {b : Bool} {xs : List V} {ds : List PyData} (h : Sqb b B.K (hid own1 H1) a xs) (r : DxAll B.K (hid own1 H1) xs ds) : WkD B own1 H1 (IteB b B.K a) (fun H => Sqb b B.K H a xs) (YPair (fun i => some (.int (i : Nat))) (fun i => xs[i]?)) (enumD 0 ds) := by
  have mv : ∀ {S S' : Hp}, ExtN S S' → Sqb b B.K S a xs → Sqb b B.K S' a xs := fun {S S'} s h => by
    cases b with
    | true => exact ex_sqL s h
    | false => exact ex_sqT s h
  refine ⟨by rw [enumD_len, ← r.len]; exact walk_enumQ, fun own H ev => mv (ExtN.trans ev.ex hid_ex) h, fun i own H x H' hi ev y => ?_⟩
  obtain ⟨T, v1, v2, rfl, nT, rfl, e1, hx⟩ := y
  cases e1
  obtain ⟨d, h1, h2⟩ := r.get hx
  have st : Stp B.T (hid own H) H _ _ := Stp.new (o := .tup [.int (i : Nat), v2]) hid_sub nT
  refine ⟨.tuple [.int (i : Nat), d], _, ?_, st, Dx.tup (.of upd_same) (.cons (.int _) (.cons (Dx.sm (ExtN.trans ev.ex st.ss) h2) .nil))⟩
  have := enumD_get ds 0 i d h1
  rw [Nat.zero_add] at this
  exact this
theorem id_enum {ts : TVs} : ID B (iEnumQ B.K (liftA B ts)) (dEnum ts) := fun σ H Q own E R rep ht k => by
  refine ⟨own, E, _, rep, ht, fun rs E1 own1 vs H1 q1 ev1 rs1 rep1 => ?_⟩
  unfold toDs at q1
  cases e : datas rs with
  | none => rw [e] at q1; exact q1.elim
  | some ds =>
    rw [e] at q1
    have da := datas_da rs1 e
    rcases ds with _ | ⟨d, _ | ⟨d2, r⟩⟩
    · exact q1.elim
    · obtain ⟨v, rfl, hd⟩ := cg_one da
      cases hd with
      | @lst a xs ds h r => exact ⟨a, true, rfl, ⟨xs, sqL_sub hid_sub h⟩, k _ E1 own1 H1 _ _ _ q1 ev1 rep1 (wk_enum (b := true) h r)⟩
      | @tup a xs ds h r => exact ⟨a, false, rfl, ⟨xs, sqT_sub hid_sub h⟩, k _ E1 own1 H1 _ _ _ q1 ev1 rep1 (wk_enum (b := false) h r)⟩
      | _ => exact q1.elim
    · exact q1.elim
/-! ### x[::-1] -/
def dRev (t : TV) : TV := fun E R => t E fun r E1 => r.toD (fun d E1 => match d with
  | .list xs => R (.o (.list xs.reverse)) E1
  | _ => False) E1
theorem ev_rev {k : Nat} {p1 p2 p3 : Pos} (hK : X.K = B.K) (h : PE X e (liftE B t1)) : PE X (.Subscript e (.Slice none none (some (.UnaryOp .USub (.Constant (.int 1) k p1) p2)) p3) pos) (liftE B (dRev t1)) := PE_mono (pe_revL (ev_D h)) fun σ H Q hq => by
  obtain ⟨own, E, R, rep, ht, k⟩ := hq
  refine ⟨own, E, _, rep, ht, fun d E1 own1 v H1 q1 ev1 da rep1 => ?_⟩
  rw [hK]
  cases da with
  | @lst a xs ds h r =>
    refine ⟨a, xs, rfl, sqL_sub hid_sub h, fun p np => ?_⟩
    have st : Stp B.T (hid own1 H1) H1 _ _ := Stp.newO (o := .lst xs.reverse) hid_sub np
    obtain ⟨own3, rep3, ev3, ra⟩ := rep1.res (r := .o (.list ds.reverse)) (v := .ref p) st ⟨p, rfl, np, sub_none hid_sub np, _, upd_same, r.rev⟩
    exact k _ E1 own3 _ _ q1 (ev1.trans ev3) ra rep3
  | _ => exact q1.elim
/-! ### dict displays -/
def pairsT : List (TV × TV) → EnvD → (List (PyData × PyData) → EnvD → Prop) → Prop
  | [], E, R => R [] E
  | (tk, tv) :: r, E, R => tk E fun rk E1 => rk.toD (fun dk E1 => tv E1 fun rv E2 => rv.toD (fun dv E2 => pairsT r E2 fun ps E3 => R ((dk, dv) :: ps) E3) E2) E1
def mkD (ps : List (PyData × PyData)) : List (PyData × PyData) := ps.foldl (fun acc p => putD p.1 p.2 acc) []
def dDict (ts : List (TV × TV)) : TV := fun E R => pairsT ts E fun ps E1 => (ps.length ≤ 15 ∧ ps.all (fun p => (keyOf p.1).isSome) = true) ∧ R (.o (.dict (mkD ps))) E1
def dDict0 : TV := fun E R => R (.o (.dict [])) E
def lp (B : Bas) (ts : List (TV × TV)) : List (TE × TE) := ts.map fun p => (liftD B p.1, liftD B p.2)
theorem pairs_run : ∀ (ts : List (TV × TV)) {σ : L2.St} {H : Hp} {Q : List (V × V) → Hp → Prop} {own : Owns} {E : EnvD} {R : List (PyData × PyData) → EnvD → Prop}, Rep B own σ H E → pairsT ts E R →
    (∀ ps E' own' vs H', R ps E' → Evo own H own' H' → Paired (fun (p : V × V) (q : PyData × PyData) => Dx B.K (hid own' H') p.1 q.1 ∧ Dx B.K (hid own' H') p.2 q.2) vs ps → Rep B own' σ H' E' → Q vs H') → tPairs (lp B ts) σ H Q
  | [], σ, H, Q, own, E, R, rep, ht, k => k [] E own [] H ht (Evo.refl _ _) .nil rep
  | (tk, tv) :: r, σ, H, Q, own, E, R, rep, ht, k => ⟨own, E, _, rep, ht, fun dk E1 own1 vk H1 q1 ev1 dak rep1 => ⟨own1, E1, _, rep1, q1, fun dv E2 own2 vv H2 q2 ev2 dav rep2 => pairs_run r rep2 q2 fun ps E3 own3 vs H3 q3 ev3 pr rep3 =>
      k ((dk, dv) :: ps) E3 own3 ((vk, vv) :: vs) H3 q3 ((ev1.trans ev2).trans ev3) (.cons ⟨Dx.sm (ev2.trans ev3).ex dak, Dx.sm ev3.ex dav⟩ pr) rep3⟩⟩
theorem pairs_keys {K : KW} {S : Hp} : ∀ {vs : List (V × V)} {ps : List (PyData × PyData)}, Paired (fun (p : V × V) (q : PyData × PyData) => Dx K S p.1 q.1 ∧ Dx K S p.2 q.2) vs ps → ps.all (fun p => (keyOf p.1).isSome) = true →
    ∃ kvs : List (Key × V), vs = kvs.map (fun kv => (kV kv.1, kv.2)) ∧ kvs.length = ps.length ∧ ∀ (acc : List (Key × V)) (ds : List (PyData × PyData)), (acc.map (·.1)).Nodup → DxKV K S acc ds →
      ((mergeK acc kvs).map (·.1)).Nodup ∧ DxKV K S (mergeK acc kvs) (ps.foldl (fun acc p => putD p.1 p.2 acc) ds)
  | _, _, .nil, _ => ⟨[], rfl, rfl, fun acc ds n d => ⟨n, d⟩⟩
  | _, _, .cons (a := a) (b := b) h r, e => by
    obtain ⟨vk, vv⟩ := a
    obtain ⟨dk, dv⟩ := b
    rw [List.all_cons, Bool.and_eq_true] at e
    obtain ⟨kvs, e1, e2, e3⟩ := pairs_keys r e.2
    cases ek : keyOf dk with
    | none => have := e.1; simp [ek] at this
    | some k =>
      obtain ⟨h1, h2⟩ := keyOf_da h.1 ek
      have h1 : vk = kV k := h1
      have h2 : dk = keyD k := h2
      subst h1 h2 e1
      refine ⟨(k, vv) :: kvs, rfl, by simp [e2], fun acc ds n d => ?_⟩
      have hv : Dx K S vv dv := h.2
      exact e3 (putK acc k vv) (putD (keyD k) dv ds) (nd_put k vv n) (d.put hv n k)
theorem ev_dict {keys : List (Option Expr)} {values : List Expr} {ts : List (TV × TV)} (h : PPs X pos keys values (lp B ts)) (hall : keys.all (·.isSome) = true) (hl : keys.length = values.length) (h0 : keys ≠ []) (h15 : keys.length ≤ 15) : PE X (.Dict keys values pos) (liftE B (dDict ts)) := PE_mono (pe_disp h hall hl h0 h15) fun σ H Q hq => by
  obtain ⟨own, E, R, rep, ht, k⟩ := hq
  intro p np
  have op : own p = none := rep.al p np
  have n0 : B.H0 p = none := rep.bs.nn p np
  obtain ⟨repA, evA⟩ := rep.newFr (o' := .dK []) trivial np
  refine pairs_run ts repA ht fun ps E1 own1 vs H1 q1 ev1 pr rep1 => ?_
  obtain ⟨w1, hk1⟩ := ev1.fr p Owns.set_same
  have hp1 : H1 p = some (.dK []) := hk1 _ upd_same nofun
  obtain ⟨kvs, e1, e2, e3⟩ := pairs_keys pr q1.1.2
  obtain ⟨nd, dkv⟩ := e3 [] [] .nil .nil
  refine ⟨hp1, kvs, e1, by rw [e2]; exact q1.1.1, ?_⟩
  have hob : ∀ o, H1 p = some o → (∀ ps, o ≠ .tbl ps) ∧ ∀ q, o ≠ CodeO p q := fun o e => by
    rw [hp1] at e
    cases e
    exact ⟨nofun, nofun⟩
  have ev := evA.trans ev1
  have rep2 := rep1.updFr (o' := .dK (mergeK [] kvs)) trivial w1 n0 hob
  have ev2 : Evo own H own1 (upd H1 p (.dK (mergeK [] kvs))) := ev.updFr w1 op
  have eh2 : hid own1 (upd H1 p (.dK (mergeK [] kvs))) = hid own1 H1 := by
    funext b
    by_cases z : b = p
    · subst z; rw [hid_own w1, hid_own w1]
    · unfold hid; rw [upd_ne z]
  obtain ⟨rep3, eh⟩ := rep2.unpin w1 n0
  have ev3 : Evo own H (own1.set p (some .tmp)) (upd H1 p (.dK (mergeK [] kvs))) := ⟨by rw [eh]; exact ev2.ex, fun a h => ⟨by
    rw [Owns.set_ne (fun z => by subst z; rw [op] at h; cases h)]
    exact (ev2.fr a h).1, (ev2.fr a h).2⟩⟩
  exact k _ E1 _ _ _ q1.2 ev3 ⟨p, rfl, Owns.set_same, .inl ⟨_, upd_same, nd, by rw [eh, eh2]; exact dkv⟩⟩ rep3
theorem ev_dict0 : PE X (.Dict [] [] pos) (liftE B dDict0) := PE_mono pe_dnewK fun σ H Q hq => by
  obtain ⟨own, E, R, rep, ht, k⟩ := hq
  intro p np
  have st : Stp B.T (hid own H) H _ _ := Stp.newO (o := .dK []) hid_sub np
  obtain ⟨own3, rep3, ev3, ra⟩ := rep.res (r := .o (.dict [])) (v := .ref p) st ⟨p, rfl, np, sub_none hid_sub np, .inl ⟨[], upd_same, .nil, .nil⟩⟩
  exact k _ E own3 _ _ ht ev3 ra rep3
theorem ep_cons {k v : Expr} {ks : List (Option Expr)} {vs : List Expr} {tk tv : TV} {ts : List (TV × TV)} (hk : PE X k (liftE B tk)) (hv : PE X v (liftE B tv)) (hr : PPs X pos ks vs (lp B ts)) : PPs X pos (some k :: ks) (v :: vs) (lp B ((tk, tv) :: ts)) := pps_cons (ev_D hk) (ev_D hv) hr
theorem ep_nil : PPs X pos [] [] (lp B []) := pps_nil
/-- -i -/
theorem ev_neg {i : Int} {k : Nat} {p1 : Pos} : PE X (.UnaryOp .USub (.Constant (.int i) k p1) pos) (liftE B (dC (.int (-i)))) := PE_mono (pe_un un_neg pe_int) fun σ H Q hq => by
  obtain ⟨own, E, R, rep, ht, k⟩ := hq
  exact ⟨i, rfl, k _ E own _ H ht (Evo.refl _ _) (Dx.int _) rep⟩
/-! ### min, max of two -/
def gMin2 (ds : List PyData) (k : Rv → Prop) : Prop := match ds with
  | [.int i, .int j] => k (.d (.int (if j < i then j else i)))
  | _ => False
def gMax2 (ds : List PyData) (k : Rv → Prop) : Prop := match ds with
  | [.int i, .int j] => k (.d (.int (if j > i then j else i)))
  | _ => False
theorem two_int {K : KW} {S : Hp} {vs : List V} {i j : Int} (h : DxAll K S vs [.int i, .int j]) : vs = [.int i, .int j] := by
  cases h with
  | cons h r =>
    cases h
    cases r with
    | cons h r =>
      cases h
      cases r
      rfl
theorem cg_min2 : CallG B (fun xs H Q => ∃ i j, xs = [.int i, .int j] ∧ Q (.int (if j < i then j else i)) H) gMin2 := fun S H vs ds k Q s hall g f => by
  unfold gMin2 at g
  split at g
  · rw [two_int hall]
    exact ⟨_, _, rfl, fin_d s f g (.int _)⟩
  · exact g.elim
theorem cg_max2 : CallG B (fun xs H Q => ∃ i j, xs = [.int i, .int j] ∧ Q (.int (if j > i then j else i)) H) gMax2 := fun S H vs ds k Q s hall g f => by
  unfold gMax2 at g
  split at g
  · rw [two_int hall]
    exact ⟨_, _, rfl, fin_d s f g (.int _)⟩
  · exact g.elim
end
end Kf

set_option Elab.async false
set_option linter.all false
set_option maxRecDepth 100000
set_option maxHeartbeats 2000000
namespace Kf
open PySem PySem.Spec PyProof.Rows L2 LamX NdefX
section
variable {X : Cx} {pins : List (Addr × Obj)} {σ : L2.St} {H : Hp} {s : Shared}
theorem Da.shows (I : Inv X pins σ H s) {a : Addr} {d : PyData} (h : Da X.K H (.ref a) d) (hs : d.showable = true) (hz : d.shown.length ≤ sizeLine) : ∃ T idr, ShowsBy X.prog X.w s.heap a d T idr := by
  obtain ⟨as, rd⟩ := Da.reads I h (u := .ref a) rfl
  cases h with
  | @lst _ xs ds h q =>
    have hz' : (listText (PyData.shownAll ds)).length ≤ sizeLine := by simpa only [PyData.shown] using hz
    obtain ⟨its, rv, ⟨o, n, ho, hc, _, hd⟩, _⟩ := I.list h
    obtain ⟨bs, hb, hk⟩ := DaAll.repr I q rv (by simpa [PyData.showable] using hs) (fun t ht => Nat.le_trans (listText_mem_le ht) hz')
    have hna := not_mem_of_deeper rd (by simp only [PyData.depth]; omega) hb
    refine ⟨"list", "list.__repr__", F.slot_list_repr.toG, F.slot_list_str, F.slot_list_format, fun s hk0 => ⟨o, hk0 _ _ ho, hc⟩, fun A E s Q hg hu hk0 hQ => ?_⟩
    simp only [PyData.depth] at hu
    simp only [PyData.shown] at hQ
    cases its with
    | nil =>
      cases rv
      cases q
      simp only [PyData.shownAll, listText_nil] at hQ
      exact call_list_repr_empty ⟨o, hk0 _ _ ho, hc⟩ (hk0 _ _ ho) hd (hQ s.heap _ _ fun _ _ e => e)
    | cons x l => exact call_list_reprK ho hc hd hna (by simpa using hk.length_eq) (fun i y e => hk.item i y (by simpa using e)) hg (fun b _ => Clear.nil b) hu hk0 hQ hz'
  | @tup _ xs ds h q =>
    have hz' : (tupleText (PyData.shownAll ds)).length ≤ sizeLine := by simpa only [PyData.shown] using hz
    obtain ⟨its, rv, ⟨o, ho, hc, n, hd⟩, _⟩ := I.tuple h
    obtain ⟨bs, hb, hk⟩ := DaAll.repr I q rv (by simpa [PyData.showable] using hs) (fun t ht => Nat.le_trans (tupleText_mem_le ht) hz')
    have hna := not_mem_of_deeper rd (by simp only [PyData.depth]; omega) hb
    refine ⟨"tuple", "tuple.__repr__", F.slot_tuple_repr, F.slot_tuple_str, F.slot_tuple_format, fun s hk0 => ⟨o, hk0 _ _ ho, hc⟩, fun A E s Q hg hu hk0 hQ => ?_⟩
    simp only [PyData.depth] at hu
    simp only [PyData.shown] at hQ
    exact call_tuple_reprK ho hc hd hna hk hg (fun b _ => Clear.nil b) hu hk0 hQ hz'
  | @dct _ kvs ds h nd q =>
    have hz' : (dictText (PyData.shownKv ds)).length ≤ sizeLine := by simpa only [PyData.shown] using hz
    obtain ⟨hz0, hsys, vs, kv, hdo⟩ := Rd.ok (Or.inl h) I.hok
    obtain ⟨o, es, ep, ho, hx, hdat, _, hp, _⟩ := hdo
    obtain ⟨bs0, p0⟩ := DaKV.reads I q kv
    obtain ⟨h4, h5⟩ := PyProof.V.readsAll_of_pairs (fun k key e => keyD_reads k key e) hp p0
    obtain ⟨hs1, hs2⟩ := PyData.showableKv_split ds (by simpa [PyData.showable] using hs)
    obtain ⟨b1, hb1, k1⟩ := ReprAllK.of_readsAll (prog := X.prog) (w := X.w) h4 hs1 (fun z => by rw [keys_nodict q] at z; cases z) (fun t ht => let ⟨p, hp, hl⟩ := PyData.shownKv_key_le ds t ht; Nat.le_trans hl (Nat.le_trans (dictText_mem_le hp) hz'))
    obtain ⟨b2, hb2, k2⟩ := DaKV.repr I q kv hs2 (fun t ht => let ⟨p, hp, hl⟩ := PyData.shownKv_val_le ds t ht; Nat.le_trans hl (Nat.le_trans (dictText_mem_le hp) hz'))
    rw [← pairs_vals hp] at k2
    have hb : ReadAtMost s.heap (PyData.depthKv ds) (b1 ++ b2) := (hb1.mono (PyData.depthAll_keys_le ds)).append (hb2.mono (PyData.depthAll_vals_le ds))
    have hna := not_mem_of_deeper rd (by simp only [PyData.depth]; omega) hb
    refine ⟨"dict", "dict.__repr__", F.slot_dict_repr, F.slot_dict_str, F.slot_dict_format, fun s hk0 => ⟨o, hk0 _ _ ho, hx.1⟩, fun A E s Q hg hu hk0 hQ => ?_⟩
    simp only [PyData.depth] at hu
    simp only [PyData.shown, PyData.shownKv_eq] at hQ
    exact call_dict_reprK ho hx.1 hdat hsys hna (ReprEntriesK.of_two es.toList _ _
      (k1.more_le (fun b hb => List.mem_append_left _ hb) (PyData.depthAll_keys_le ds)) (k2.more_le (fun b hb => List.mem_append_right _ hb) (PyData.depthAll_vals_le ds))) hg (fun b _ => Clear.nil b) hu hk0 hQ (by rw [← PyData.shownKv_eq]; exact hz')
def rReprA (K : PySem.W.Frag) : List V → Hp → VK → Prop := fun xs H Q => ∃ v d, xs = [v] ∧ Da K H v d ∧ d.showable = true ∧ d.depth ≤ 60 ∧ d.shown.length ≤ sizeLine ∧ Q (.str d.shown) H
theorem call_reprA {X : Cx} {k : Nat} (hg : X.A.guards = some []) (hr : Room k X.A) : CallR X (.builtin "repr") (rReprA X.K) := by
  intro pins s σ H xs us Q I r q
  obtain ⟨v, d, rfl, hd, hs, hdp, hz, q⟩ := q
  obtain ⟨u, rfl, ru⟩ := r.one
  have hu := hr.un
  have big : ∀ {a : Addr}, RelV (.ref a) u → Da X.K H (.ref a) d → wpAny (model X.prog X.w) X.A (call (.builtin "repr") [u]) (EP X pins σ Q) X.xe s := fun {a} ru hd => by
    cases (show u = Value.ref a from ru)
    obtain ⟨T, idr, S⟩ := hd.shows I hs hz
    exact call_repr_slot (by omega) (S.typeIs s fun _ _ e => e) S.slotRepr (S.call X.A.in1 _ s _ hg (by show X.A.units + 1 + d.depth < cLine; omega) (fun _ _ e => e) fun h' u tk hk => ⟨_, _, rfl, ⟨.str d.shown, H, I.kept hk, ⟨u, rfl⟩, q⟩⟩)
  cases hd with
  | non =>
    cases (show u = .none from ru)
    simp only [PyData.shown] at q
    exact PySem.P.repr_of_none ⟨.str _, H, I.tok _, ⟨_, rfl⟩, q⟩
  | bl b =>
    cases (show u = .bool b from ru)
    simp only [PyData.shown] at q
    exact PySem.P.repr_of_bool ⟨.str _, H, I.tok _, ⟨_, rfl⟩, q⟩
  | int i =>
    obtain ⟨t, rfl⟩ := ru
    simp only [PyData.shown] at q
    exact PySem.P.repr_of_int (by simpa [PyData.showable] using hs) ⟨.str _, H, I.tok _, ⟨_, rfl⟩, q⟩
  | str z =>
    obtain ⟨t, rfl⟩ := ru
    simp only [PyData.shown] at q hz
    exact PySem.P.repr_of_str ⟨.str _, H, I.tok _, ⟨_, rfl⟩, q⟩ hz
  | lst h1 h2 => exact big ru (.lst h1 h2)
  | tup h1 h2 => exact big ru (.tup h1 h2)
  | dct h1 h2 h3 => exact big ru (.dct h1 h2 h3)
end
section
variable {B : Bas} {X : Cx}
def gRepr (ds : List PyData) (k : Rv → Prop) : Prop := match ds with
  | [d] => (d.showable = true ∧ d.depth ≤ 60 ∧ d.shown.length ≤ sizeLine ∧ plD d = true) ∧ k (.d (.str d.shown))
  | _ => False
theorem cg_repr : CallG B (rReprA B.K.K) gRepr := fun S H vs ds k Q s hall g f => by
  rcases ds with _ | ⟨d, _ | ⟨d2, r⟩⟩
  · exact g.elim
  · obtain ⟨v, rfl, hd⟩ := cg_one hall
    exact ⟨v, d, rfl, (da_sub s hd).da g.1.2.2.2, g.1.1, g.1.2.1, g.1.2.2.1, fin_d s f g.2 (.str _)⟩
  · exact g.elim
/-! ### text * number -/
def rRepS : R2 := fun x y H Q => ∃ z i, x = .str z ∧ y = .int i ∧ z.length ≤ 16 ∧ 0 ≤ i ∧ i ≤ 1048576 ∧ Q (.str (Txt.mul z i)) H
theorem op_repS : OpR X (binaryOp .Mult) rRepS := by
  intro pins s σ H x y v u Q I rx ry h
  obtain ⟨z, i, rfl, rfl, h1, h2, h3, q⟩ := h
  obtain ⟨t, rfl⟩ := rx
  obtain ⟨t', rfl⟩ := ry
  exact PySem.W.KXi.mul rfl h1 (by omega) (by omega) fun t2 k _ _ => ⟨.str _, H, I.tok _, ⟨_, rfl⟩, q⟩
def gMulS (d e : PyData) (k : Rv → Prop) : Prop := match d, e with
  | .str z, .int i => (z.length ≤ 16 ∧ 0 ≤ i ∧ i ≤ 1048576) ∧ k (.d (.str (Txt.mul z i)))
  | _, _ => False
theorem og_mulS : OpG B rRepS gMulS := fun S H v1 v2 d1 d2 k Q s h1 h2 g f => by
  unfold gMulS at g
  split at g
  · cases h1
    cases h2
    exact ⟨_, _, rfl, rfl, g.1.1, g.1.2.1, g.1.2.2, fin_d s f g.2 (.str _)⟩
  · exact g.elim
end
end Kf

set_option Elab.async false
set_option linter.all false
set_option maxRecDepth 100000
set_option maxHeartbeats 2000000
namespace Kf
open PySem PySem.Spec PyProof.Rows L2 LamX NdefX
/-- a promise where no guard stands around -/
structure FnOkG (P : Program) (w : World) (K : PySem.W.Frag) (mg : Str → Option Value) (base : Heap) (k : Nat) (f : Addr) (fd : FuncData) (ps : List Str) (sp : Sp) : Prop where
  len : ∀ vs H Q E, sp vs H Q E → vs.length = ps.length
  run : ∀ (A : Around) (outer : List Env) (s : Shared) (H : Hp) (args : Args) (us : List Value) (vs : List V) (Q : VK) (E : XK), Room k A → A.guards = some [] → Env0 P w K mg base A outer s H → BindsTo s fd args (ps.zip us) → Vals vs us → sp vs H Q E →
    codeAny (model P w) A (.call (.ref f) args) (CR CX0 outer P w H s Q E) s
section
variable {P : Program} {w : World} {K : PySem.W.Frag} {mg : Str → Option Value} {base : Heap}
theorem okG {x qual : Str} {st : Stmt} {f : Addr} {fd : FuncData} {N ps : List Str} {k : Nat} {sp : Sp} (F : L2.Fun K x qual st f fd) (S : FnScope N ps (defScope st)) (len : ∀ vs H Q E, sp vs H Q E → vs.length = ps.length)
    (hbody : ∀ (cdv : Value) (A : Around) (outer : List Env) (s : Shared) (H : Hp) (vs : List V) (Q : VK) (E : XK), Room k (A.deeper (envOfC qual (defScope st) s.heap.objs.size f cdv)) → (A.deeper (envOfC qual (defScope st) s.heap.objs.size f cdv)).guards = some [] → sp vs H Q E →
      ∃ t, PSs (cxOf CX0 P w K mg base N qual (defScope st) f cdv A outer s H E).nox (defBody st) t ∧ t { nx := fun _ H' => Q .non H', rt := Q } (L2.start N vs) H) : FnOkG P w K mg base (k + 1) f fd ps sp := by
  obtain ⟨oc, od, kV, doc, pm, an, cdv, ct, osl, rfl, lk, hcd⟩ := F.ex
  refine ⟨len, fun A outer s H args us vs Q E hr hg e0 hb r hsp => ?_⟩
  refine run_ofS lk hcd S hr e0 hb r (len _ _ _ _ hsp) fun hr' => ?_
  obtain ⟨t, h, q⟩ := hbody cdv A outer s H vs Q E hr' hg hsp
  exact ⟨t, h.nox, q⟩
end
structure CalG (P : Program) (w : World) (K : PySem.W.Frag) (mg : Str → Option Value) (base : Heap) (k : Nat) (x : Str) (ps : List Str) (sp : Sp) : Prop where
  ex : ∃ f fd, mg x = some (.ref f) ∧ PySem.W.keepIn K (.ref f) = true ∧ Binds K fd ps [] ∧ FnOkG P w K mg base k f fd ps sp
theorem pe_calG {X : Cx} {k j : Nat} {x : Str} {ps : List Str} {sp : Sp} {p pos : Pos} {e : Expr} {es : List Expr} {t : TA} (C : CalG X.prog X.w X.K X.mg X.base k x ps sp) (hG : X.A.guards = some []) (hk : k ≤ j) (hr : Room j X.A) (hg : Gl X x) (ha : PA X (e :: es) t) (hdb : (x == ("__debug__" : Str)) = false := by decide)
    (he : starEach (e :: es) X.env = (false, eval e X.env) :: starEach es X.env := by rfl) (hpl : (backTo pos (starEach es X.env)).any (·.1) = false := by rfl) : PE X (.Call (.Name x p) (e :: es) [] pos) (tCall sp [] E0 t) := by
  obtain ⟨f, fd, m, kp, hb, F⟩ := C.ex
  refine ⟨fun pins s σ H Q I h => ?_⟩
  refine wpAny_Call_Name_kw (ld_glob I hg m ?_ hdb)
  refine PySem.W.callWith_K (h₀ := X.base) I.ok.mod.kin kp (thn (ha.run pos pins s σ H _ I h) fun us s1 ⟨vs, H1, I1, r, q⟩ => ⟨I1.kIn, ?_⟩) he hpl
  have r2 : Vals (vs ++ []) (us ++ []) := r.append .nil
  have hl : (us ++ []).length = ps.length := by rw [← r2.length]; exact F.len _ _ _ _ q
  refine wpAny_call (codeAny_mono (F.run X.A X.stack s1 H1 ⟨us, []⟩ (us ++ []) (vs ++ []) Q E0 (hr.mono hk) hG I1.env0 (hb s1 us I1.kIn hl) r2 q) fun r s' hq => ?_)
  cases r with
  | error e => exact pass0 pins σ H1 s1 e s' I1 hq
  | ok fl =>
    cases fl with
    | ret u => exact I1.after hq
    | next => exact False.elim hq
    | brk => exact False.elim hq
    | cont => exact False.elim hq

/-! ### .. by its reading -/
theorem fnokG {K : KW} {mg : Str → Option Value} {base : Heap} {T : List NTab} {x qual : Str} {st : Stmt} {f : Addr} {fd : FuncData} {N ps : List Str} {k : Nat} {t : TSD} {ios : List Nat} (F : L2.Fun K x qual st f fd) (S : FnScope N ps (defScope st))
    (hb : ∀ (cdv : Value) (A : Around) (outer : List Env) (s : Shared) (H : Hp) (E : XK) (B : Bas), B.K = K → B.T = T → B.gv.map (·.1) = ios → Room k (A.deeper (envOfC qual (defScope st) s.heap.objs.size f cdv)) → (A.deeper (envOfC qual (defScope st) s.heap.objs.size f cdv)).guards = some [] → PSs (cxOf CX0 K.P K.w K.K mg base N qual (defScope st) f cdv A outer s H E).nox (defBody st) (liftS B t)) :
    FnOkG K.P K.w K.K mg base (k + 1) f fd ps (spM T K ps.length ios (defM N.length ios t)) := by
  refine okG F S (fun vs H Q E h => ?_) (fun cdv A outer s H vs Q E hr hg h => ?_)
  · obtain ⟨_, _, _, _, _, hl, _⟩ := h
    exact hl
  · have hN : ps.length ≤ N.length := by
      have := congrArg List.length S.pre
      rw [List.length_take] at this
      omega
    obtain ⟨B, e1, e2, e3, q⟩ := enterM hN h
    exact ⟨_, hb cdv A outer s H E B e1 e2 e3 hr hg, q⟩
theorem spT_spM {T : List NTab} {K : KW} {n m : Nat} {t : TSD} {vs : List V} {H : Hp} {Q : VK} {E : XK} (h : spT T K n (defT m t) vs H Q E) : spM T K n [] (defM m [] t) vs H Q E := by
  obtain ⟨S0, rs, R, W, hl, sub, tb, wf, pr, ht, k⟩ := h
  refine ⟨S0, rs, fun r _ => R r, W, [], hl, sub, tb, wf, rfl, .nil, pairsR pr, ht, fun r os v S' H' hr st rn _ => ?_⟩
  have ng : ∀ a, ¬ gvA [] a := fun a ⟨i, m⟩ => by cases m
  refine k r v S' H' hr ⟨st.sm.up fun a m => m.elim id fun z => (ng a z).elim, st.ss, st.sub, fun a h1 h2 => st.sep a h1 h2 (ng a), st.kp⟩ ?_
  cases r with
  | o y =>
    obtain ⟨p, e1, e2, e3, e4, _⟩ := rn
    exact ⟨p, e1, e2.resolve_right (ng p), e3, e4⟩
  | _ => exact rn
theorem FnOkG.imp {K : KW} {mg : Str → Option Value} {base : Heap} {k : Nat} {f : Addr} {fd : FuncData} {ps : List Str} {sp sp' : Sp} (F : FnOkG K.P K.w K.K mg base k f fd ps sp) (h : ∀ vs H Q E, sp' vs H Q E → sp vs H Q E) : FnOkG K.P K.w K.K mg base k f fd ps sp' :=
  ⟨fun vs H Q E q => F.len vs H Q E (h _ _ _ _ q), fun A outer s H args us vs Q E hr hg he hb hv hs => F.run A outer s H args us vs Q E hr hg he hb hv (h _ _ _ _ hs)⟩
section
variable {X : Cx} {B : Bas} {a b c e : Expr} {es : List Expr} {ta tb t te : TV} {ts : TVs} {pos : Pos}
theorem ev_calG {j k n : Nat} {x : Str} {ps : List Str} {p : Pos} {tf : List Rv → (Rv → Prop) → Prop} (C : CalG X.prog X.w X.K X.mg X.base k x ps (spT B.T B.K n tf)) (hG : X.A.guards = some []) (hk : k ≤ j) (hr : Room j X.A) (hg : Gl X x) (ha : PA X (e :: es) (liftA B ts)) (hdb : (x == ("__debug__" : Str)) = false := by decide)
    (he : starEach (e :: es) X.env = (false, eval e X.env) :: starEach es X.env := by rfl) (hpl : (backTo pos (starEach es X.env)).any (·.1) = false := by rfl) : PE X (.Call (.Name x p) (e :: es) [] pos) (liftE B (dCal n tf ts)) := PE_mono (pe_calG C hG hk hr hg ha hdb he hpl) fun σ H Q hq => by
  obtain ⟨own, E, R, rep, ht, k⟩ := hq
  refine ⟨own, E, _, rep, ht, fun rs E1 own1 vs H1 q1 ev1 rs1 rep1 => ?_⟩
  refine ⟨hid own1 H1, rs, _, B.W, by rw [List.append_nil, pairLen rs1]; exact q1.1, hid_sub, rep1.tb, rep1.wf, by rw [List.append_nil]; exact rs1, q1.2, fun r v S' H' hr st rn => ?_⟩
  obtain ⟨own3, rep3, ev3, ra⟩ := rep1.resW st rn
  exact k r E1 own3 v H' hr (ev1.trans ev3) ra rep3
/-- [..] * 5 -/
def dRep (ta : TV) (i : Int) : TV := fun E R => ta E fun r E1 => match r with
  | .o (.list xs) => (0 ≤ i ∧ i ≤ 1000 ∧ xs.length ≤ 1000) ∧ R (.o (.list (List.replicate i.toNat xs).flatten)) E1
  | _ => False
theorem da_rep {K : KW} {S : Hp} {xs : List V} {ds : List PyData} (h : DxAll K S xs ds) : ∀ n : Nat, DxAll K S (List.replicate n xs).flatten (List.replicate n ds).flatten
  | 0 => .nil
  | n + 1 => by
    rw [List.replicate_succ, List.replicate_succ, List.flatten_cons, List.flatten_cons]
    exact h.app (da_rep h n)
theorem ev_rep {i : Int} (ha : PE X a (liftE B ta)) (hb : PE X b (tC (.int i))) : PE X (.BinOp a .Mult b pos) (liftE B (dRep ta i)) := PE_mono (pe_op op_rep ha hb) fun σ H Q hq => by
  obtain ⟨own, E, R, rep, ht, k⟩ := hq
  refine ⟨own, E, _, rep, ht, fun r E1 own1 v H1 q1 ev1 ra rep1 => ?_⟩
  cases r with
  | o x =>
    cases x with
    | list ds =>
      obtain ⟨p, rfl, w, xs, h1, h2⟩ := ra
      obtain ⟨⟨z1, z2, z3⟩, q1⟩ := q1
      have hl : xs.length * i.toNat ≤ 1000 * 1000 := Nat.mul_le_mul (by rw [h2.len]; exact z3) (by omega)
      refine ⟨p, i, xs, rfl, rfl, h1, by omega, by omega, by rw [sizeLine_eq]; omega, fun q nq => ?_⟩
      have st : Stp B.T (hid own1 H1) H1 _ _ := Stp.newO (o := .lst (List.replicate i.toNat xs).flatten) hid_sub nq
      obtain ⟨own3, rep3, ev3, ra3⟩ := rep1.res (r := .o (.list (List.replicate i.toNat ds).flatten)) (v := .ref q) st ⟨q, rfl, nq, sub_none hid_sub nq, _, upd_same, da_rep h2 _⟩
      exact k _ E1 own3 _ _ q1 (ev1.trans ev3) ra3 rep3
    | _ => exact q1.elim
  | _ => exact q1.elim
end
end Kf

set_option Elab.async false
set_option linter.all false
set_option maxRecDepth 100000
set_option maxHeartbeats 2000000
namespace Kf
open PySem PySem.Spec PyProof.Rows L2 LamX NdefX
/-! ## what is caught stays: `error = caught` -/
/-- an exception that has been caught: its class, its dict -/
def ExK (a : Addr) (cls : Value) (d : Option Addr) : HO := .ext fun h => ∃ (oe : Obj) (vs : Array Value), h.get? a = some oe ∧ Zc cls d oe ∧ oe.data = .fields vs
theorem exK_ok {P : Program} {w : World} {H : Hp} {h : Heap} {a : Addr} {cls : Value} {d : Option Addr} {oe : Obj} {vs : Array Value} (e : h.get? a = some oe) (z : Zc cls d oe) (q : oe.data = .fields vs) : ObjOk P w H h a (ExK a cls d) :=
  ⟨⟨oe, vs, e, z, q⟩, ⟨oe, e⟩, fun _ _ ⟨o, v, q, r⟩ k => ⟨o, v, k o q, r⟩⟩
section
variable {X : Cx} {pins : List (Addr × Obj)} {σ : L2.St} {H : Hp} {s : Shared}
/-- an object that stands there from now on is followed -/
theorem Inv.follow {a : Addr} {o : HO} {oe : Obj} {vs : Array Value} (I : Inv X pins σ H s) (na : H a = none) (he : s.heap.get? a = some oe) (hd : oe.data = .fields vs) (h0 : X.s_0.heap.get? a = none) (nL : a ≠ X.env.locals) (np : ∀ p ∈ X.pn ++ pins, p.1 ≠ a)
    (ho : ObjOk X.prog X.w (upd H a o) s.heap a o) : Inv X pins σ (upd H a o) s := by
  have other : ∀ {b : Addr}, b ≠ a → upd H a o b = H b := fun n => upd_ne n
  refine ⟨I.ok, I.os, I.bare, ⟨I.base.keep, I.base.slot, fun b u e n x => ?_, I.base.there, fun b xs e => ?_, fun b u v e => ?_, fun b ps e => ?_⟩, I.loc, I.cell, ?_, fun x c e => ?_, fun p hp => ?_, ?_, I.len⟩
  · rw [other (fun z => by rw [z, h0] at e; cases e)]
    exact I.base.free b u e n x
  · have := I.base.tups b xs e
    rw [other (fun z => by rw [z, na] at this; cases this)]
    exact this
  · have := I.base.frzs b u v e
    rw [other (fun z => by rw [z, na] at this; cases this)]
    exact this
  · obtain ⟨more, q⟩ := I.base.tbls b ps e
    exact ⟨more, by rw [other (fun z => by rw [z, na] at q; cases q)]; exact q⟩
  · rw [other (Ne.symm nL)]
    exact I.free
  · have ne : c ≠ a := fun z => by
      obtain ⟨v, u, hu, hc⟩ := I.cell x c e
      rw [z, he] at hu
      cases hu
      rw [hd] at hc
      cases hc
    rw [other ne]
    exact I.freeC x c e
  · obtain ⟨q1, q2, q3⟩ := I.pin p hp
    exact ⟨q1, by rw [other (np p hp)]; exact q2, q3⟩
  · exact HOk.laidN I.hok (fun _ _ e => e) na ho
end
/-- what leaves the suite: always caught, and kept -/
def wKeep (K : PySem.W.Frag) (c : Value) (i j : Nat) (D : Ends) : WX := fun cls d σ H => PySem.W.exmOne K cls c = some true ∧ ∀ a, H a = none → D.nx (((σ.set i (some (.ref a))).set j (some (.ref a))).set i none) (upd H a (ExK a cls d))
end Kf

set_option Elab.async false
set_option linter.all false
set_option maxRecDepth 100000
set_option maxHeartbeats 2000000
namespace Kf
open PySem PySem.Spec PyProof.Rows L2 LamX NdefX
section
variable {X : Cx} {x n m : Str} {c : Value} {i j : Nat} {body : List Stmt} {np p1 p2 p3 pos pos' : Pos} {tb : WX → TS}
/-- try: .. except x as n: m = n; all that body may raise is an x -/
theorem ps_try_keep (hs : X.stack = X.env :: X.outer) (hf : X.env.frame = some X.env.locals) (hN : X.N.Nodup) (hi : X.N[i]? = some n) (hj : X.N[j]? = some m) (hln : X.env.kindOf n = some .local) (hlm : X.env.kindOf m = some .local) (hc : Names X x c) (hx : X.ex = [])
    (d1 : (n == ("__debug__" : Str)) = false) (d2 : (n == ("__classdict__" : Str)) = false)
    (hb : ∀ (W : WX) (pn : List (Addr × Obj)) (xe : Value → Shared → Prop), Takes (X.tr pn xe) W → PassesOwn (model X.prog X.w) X.A X.env xe → PSs (X.tr pn xe) body (tb W)) :
    PS X (.Try body [.ExceptHandler (some (.Name x np)) (some n) [.Assign [.Name m p1] (.Name n p2) p3] pos'] [] [] pos) (fun D σ H => tb (wKeep X.K c i j D) D σ H) := by
  constructor
  intro pins s0 σ0 H0 D I0 h0
  have okX := I0.ok
  have fr0 : X.A.frames = some (X.env :: X.outer) := okX.frames.trans (congrArg some hs)
  apply wpAny_Try_except
  refine wpAny_mono ((hb (wKeep X.K c i j D) (X.pn ++ pins) (fun e sa => wpAny (model X.prog X.w) X.A (noteFrame e X.env) (fun _ sb => wpAny (model X.prog X.w) X.A (setFlight e none) (fun _ sc => wpAny (model X.prog X.w) X.A (handleBy e X.env [.ExceptHandler (some (.Name x np)) (some n) [.Assign [.Name m p1] (.Name n p2) p3] pos']) (SP X pins D) X.xe sc) X.xe sb) X.xe sa)
    (fun u sx caught => ?_) PassesOwn.looking).run [] s0 σ0 H0 D (I0.toTry _) h0) (fun f s1 fin => ?_) (fun _ _ q => q)
  · obtain ⟨a, G, sI, pinsT, σ1, H1, cls, d, rfl, JT, grd, ups, sky, na, oss, gens, yes, after⟩ := caught
    have J : Inv X pins σ1 H1 sI := JT.ofTry okX
    rw [show X.stack = X.env :: X.outer from hs] at sky
    refine Sky.land Zc.steady fr0 hf sky fun hA flA upA => ?_
    have gNone : G.get? a = none := flA.2.1
    obtain ⟨oA, vA, eA, zA, dA⟩ := flA.there
    have apart : ∀ {h : Heap} {o : Obj} {vs : Array Value}, h.FunFrames G (X.env :: X.outer) → h.get? a = some o → o.data = .fields vs → ¬ a ∈ frs (X.env :: X.outer) := fun ff e q hm => by
      obtain ⟨_, o2, e2, nf⟩ := ff.mem hm
      cases e.symm.trans e2
      exact nf _ q
    have nfr := apart flA.2.2.1 eA dA
    have nL : a ≠ X.env.locals := fun z => nfr (List.mem_filterMap.mpr ⟨X.env, .head _, by rw [hf, z]⟩)
    have nF : a ∉ X.fs := fun hm => let ⟨e, he, q⟩ := List.mem_filterMap.mp hm; nfr (List.mem_filterMap.mpr ⟨e, .tail _ he, q⟩)
    have new : sI.heap.get? a = none := by
      cases q : sI.heap.get? a with
      | none => rfl
      | some o =>
        have := grd a o q (by rw [hs]; exact nfr)
        rw [gNone] at this
        cases this
    have JA : Inv X pins σ1 H1 { sx with heap := hA } := J.landed grd flA.1 (ups.trans upA) oss gens
    have SA := JA.suite eA dA na nL nF
    refine wpAny_handleBy_cons (codeAny_handlers_test ?_) nofun
    have ty : PySem.W.Looks (model X.prog X.w) hA (typeOf (.ref a)) cls := fun _ _ _ _ k q => wpAny_typeOf_ref (k _ _ eA) (by rw [zA.1]; exact q)
    have hit := PySem.W.exm_one (M := model X.prog X.w) JA.kIn ty yes
    have named : ∀ {Q E : Value → Shared → Prop}, Q c { sx with heap := hA } → wpAny (model X.prog X.w) (X.A.mark (some (.ref a))) (eval (.Name x np) X.env) Q E { sx with heap := hA } := fun {Q E} q => by
      rcases hc with ⟨g1, g2, g3 | ⟨g3, g4, g5⟩⟩
      · exact ld_glob (X := X.suite a ((a, oA) :: (X.pn ++ pins))) SA g1 g3 q g2
      · exact ld_blt (X := X.suite a ((a, oA) :: (X.pn ++ pins))) SA g1 g3 g4 q g5 g2
    refine named (hit.here (codeAny_handlers_suite_as (HandSPX.lands_againZ flA fun hB flB upB => ?_)))
    have JB : Inv X pins σ1 H1 { sx with heap := hB } := J.landed grd flB.1 ((ups.trans upA).trans upB) oss gens
    obtain ⟨oB, vB, eB, zB, dB⟩ := flB.there
    refine store_ok (X := X.suite a ((a, oB) :: (X.pn ++ pins))) (v := .ref a) (JB.suite eB dB na nL nF) hN hi (.inl hln) rfl (fun s5 S5 => ?_) (.inr hln)
    have hset : PSs (X.suite a ((a, oB) :: (X.pn ++ pins))) [.Assign [.Name m p1] (.Name n p2) p3] (tAsg (tVar i) (gName j)) := pss_one (ps_set (i := j) hN hj (.inl hlm) (pe_var (i := i) hi (.inl hln) d1 d2) rfl (.inr hlm))
    obtain ⟨De, eDe⟩ : ∃ De : Ends, De = { nx := fun σ' H' => σ' = (σ1.set i (some (.ref a))).set j (some (.ref a)) ∧ H' = H1, rt := fun _ _ => False, bk := fun _ _ => False, ct := fun _ _ => False } := ⟨_, rfl⟩
    have hi2 : i < σ1.length := by rw [J.len]; exact (List.getElem?_eq_some_iff.mp hi).1
    refine wpAny_mono (hset.run [] s5 _ H1 De S5 ?_) (fun f s6 q6 => ?_) (fun _ _ z => z.elim)
    · subst eDe
      exact ⟨.ref a, by simp [hi2], rfl, rfl⟩
    · subst eDe
      cases f with
      | next =>
        obtain ⟨σ6, H6, S6, rfl, rfl⟩ := q6
        have P6 := S6.pin (a, oB) (List.mem_append_left _ (.head _))
        have U6 := S6.unsuite okX
        have K6 : Inv X pins _ (upd H6 a (ExK a cls d)) s6 := Inv.follow U6 na P6.1 dB ?_ nL ?_ (exK_ok P6.1 zB dB)
        · exact gone_ok K6 hN hi hln fun s7 J7 => ⟨_, _, J7, after a na⟩
        · cases q : X.s_0.heap.get? a with
          | none => rfl
          | some o =>
            obtain ⟨o2, e2⟩ := J.base.there a o q (by rw [hx]; nofun)
            rw [new] at e2
            cases e2
        · intro p hp z
          have := (J.pin p hp).1
          rw [z, new] at this
          cases this
      | brk => obtain ⟨_, _, _, z⟩ := q6; exact z.elim
      | cont => obtain ⟨_, _, _, z⟩ := q6; exact z.elim
      | ret u => obtain ⟨_, _, _, _, _, z⟩ := q6; exact z.elim
  · cases f with
    | next => obtain ⟨σ', H', J', q⟩ := fin; exact wpAny_execs_nil ⟨σ', H', J'.ofTry okX, q⟩
    | brk => obtain ⟨σ', H', J', q⟩ := fin; exact ⟨σ', H', J'.ofTry okX, q⟩
    | cont => obtain ⟨σ', H', J', q⟩ := fin; exact ⟨σ', H', J'.ofTry okX, q⟩
    | ret u => obtain ⟨v, σ', H', J', r, q⟩ := fin; exact ⟨v, σ', H', J'.ofTry okX, r, q⟩
end
end Kf

set_option Elab.async false
set_option linter.all false
set_option maxRecDepth 100000
set_option maxHeartbeats 2000000
namespace Kf
open PySem PySem.Spec PyProof.Rows L2 LamX NdefX
/-! ## f(lambda: ..), where a def's lambdas are told apart by their places -/
section
variable {X : Cx} {pins : List (Addr × Obj)} {σ : L2.St} {H HZ : Hp} {s s1 : Shared}
theorem lam_make4 {T : List NTab} {nm : Nat → Nat → Str} {c P : Addr} {params : Arguments} {body : Expr} {scope : Scope} {pos : Pos} {E : Value → Shared → Prop} {Q : Value → Shared → Prop} (I : Inv X pins σ H s) (TB : TabB X.base X.mg c P) (hcode : X.env.code = .ref c)
    (hm : (P, nm) ∈ T) (hn : nm pos.line pos.col = X.env.qual ++ "<lambda>") (hu : ∀ p ∈ T, p.1 = P → p.2 = nm) (hT : TabsN T H) (hdef : defaultsOf params X.env = ([], [])) (hfree : ∀ y ∈ scope.names, y.2 = .free → ∃ c, X.env.cells.lookup y.1 = some c)
    (h : ∀ (f c' : Addr) (pm ctv : Value) (H1 : Hp) (s' : Shared), Inv X pins σ H1 s' → Sm T H H1 → TabsN T H1 →
      s'.heap.get? f = some (PySem.W.kla_obj "<lambda>" (X.env.qual ++ "<lambda>") params body scope (cloFrom X.env.cells scope.names []) pm c' ctv) → H1 f = none → f ∉ frs X.stack → H1 c' = some (CodeO c' (X.env.qual ++ "<lambda>")) → Q (.ref f) s') :
    wpAny (model X.prog X.w) X.A (eval (.Lambda params body scope pos) X.env) Q E s := by
  obtain ⟨ps, hP, ht, ha⟩ := (show TabN H P nm from hT _ hm)
  refine PySem.W.kla_eval hdef ?_
  have bP : s.heap.BuiltinsAt X.mg P := TB.bm.keeps I.bk
  have hP' : s.heap.get? P = some { cls := .none, data := .fields ps } := I.hok P _ hP
  have nofr : ∀ f, s.heap.objs.size ≤ f → f ∉ frs X.stack := fun f hf z => by
    rcases List.mem_cons.mp (I.stkSub _ z) with e | e
    · have h1 := I.lt
      rw [← e] at h1
      exact Nat.lt_irrefl _ (Nat.lt_of_lt_of_le h1 hf)
    · exact I.nofs hf e
  cases hc : codeAmong pos ps.toList with
  | none =>
    refine PySem.W.kla_makeFunction (mg := X.mg) (c := c) (P := P) (ps := ps) (closure_ok hfree) I.ok.glob (I.mod.glob.keeps I.bk) hcode (TB.code.keeps I.bk) hP' ht hc TB.gP bP fun c' ctv h' tk hx hge hlt hrec htb => ?_
    obtain ⟨c2, oc, vs, t, e2, hoc, hd, hv⟩ := hrec
    cases e2
    have hsz : s.heap.objs.size ≤ h'.objs.size := Nat.le_trans hge (Nat.le_of_lt hlt)
    have nC : H c' = none := I.hok.fresh hge
    have I1 := inv_table (t' := tk) (more := #[rawInt pos.line, rawInt pos.col, .ref c']) (h' := h'.push (PySem.W.kla_obj "<lambda>" (X.env.qual ++ "<lambda>") params body scope (cloFrom X.env.cells scope.names []) ((X.mg "__name__").getD .none) c' ctv)) I hP
      (fun b o hb e => Heap.get?_push_of_some _ (hx b o hb e)) (Heap.get?_push_of_some _ htb) hge ⟨oc, vs, t, Heap.get?_push_of_some _ hoc, hd, hv⟩
    have hE : ExtN H (upd (upd H P (.tbl (ps ++ #[rawInt pos.line, rawInt pos.col, .ref c']))) c' (CodeO c' (X.env.qual ++ "<lambda>"))) := fun b o e n => by
      rw [upd_ne (ne_of_none e nC), upd_ne (fun z => n ps (Option.some.inj (e.symm.trans (by rw [z]; exact hP))))]
      exact e
    have eL : (ps ++ #[rawInt pos.line, rawInt pos.col, .ref c']).toList = ps.toList ++ [rawInt pos.line, rawInt pos.col, .ref c'] := by simp
    have T1 : TabsN T (upd (upd H P (.tbl (ps ++ #[rawInt pos.line, rawInt pos.col, .ref c']))) c' (CodeO c' (X.env.qual ++ "<lambda>"))) := fun p hp => by
      by_cases hb : p.1 = P
      · rw [hu p hp hb, hb]
        refine ⟨_, by rw [upd_ne (ne_of_none hP nC), upd_same], by rw [eL]; exact PySem.TriplesOk_snoc _ _ _ _ ht, fun p' cv hcv => ?_⟩
        rw [eL] at hcv
        rcases among_app2 _ ht hcv with z | ⟨z, z1, z2⟩
        · obtain ⟨c0, e1, e2⟩ := ha p' cv z
          exact ⟨c0, e1, hE _ _ e2 codeO_ne⟩
        · refine ⟨c', z, ?_⟩
          rw [← z1, ← z2, hn]
          exact upd_same
      · obtain ⟨ps', a1, a2, a3⟩ := hT p hp
        refine ⟨ps', by rw [upd_ne (ne_of_none a1 nC), upd_ne hb]; exact a1, a2, fun p' cv hcv => ?_⟩
        obtain ⟨c0, e1, e2⟩ := a3 p' cv hcv
        exact ⟨c0, e1, hE _ _ e2 codeO_ne⟩
    refine h h'.objs.size c' ((X.mg "__name__").getD .none) ctv _ _ I1 ⟨hE, fun b e => upd_none (upd_none e), fun _ => T1⟩ T1 (Heap.get?_push_size _ rfl) ?_ (nofr _ hsz) upd_same
    have n1 : h'.objs.size ≠ c' := Nat.ne_of_gt hlt
    have n2 : h'.objs.size ≠ P := Nat.ne_of_gt (Nat.lt_of_lt_of_le (Heap.lt_size hP') hsz)
    rw [upd_ne n1, upd_ne n2]
    exact I.hok.fresh hsz
  | some cv =>
    obtain ⟨c', e, hco⟩ := ha pos cv hc
    subst e
    rw [hn] at hco
    refine PySem.W.kla_makeFunctionHit (mg := X.mg) (c := c) (P := P) (ps := ps) (closure_ok hfree) I.ok.glob (I.mod.glob.keeps I.bk) hcode (TB.code.keeps I.bk) hP' ht hc bP fun ctv h' tk hx hsz => ?_
    have I1 : Inv X pins σ H { s with heap := h'.push (PySem.W.kla_obj "<lambda>" (X.env.qual ++ "<lambda>") params body scope (cloFrom X.env.cells scope.names []) ((X.mg "__name__").getD .none) c' ctv), toks := tk } := I.kept fun b o e => Heap.get?_push_of_some _ (hx b o e)
    exact h h'.objs.size c' ((X.mg "__name__").getD .none) ctv H _ I1 (Sm.refl T H) hT (Heap.get?_push_size _ rfl) (I.hok.fresh hsz) (nofr _ hsz) hco
theorem pe_actS {CXg : CXT} {Eg : XK} {Ng : List Str} {qg : Str} {sg : Scope} {g f c' : Addr} {cdg pm ctv : Value} {params : Arguments} {body : Expr} {scope : Scope} {k i : Nat} {a : Str} {pn : List (Addr × Obj)} {xe : Value → Shared → Prop} {W : WX} {tb : XK → TE} {p1 p2 : Pos}
    (I : Inv X pins σ H s) (L : LamS X.env.scope scope) (hf : s.heap.get? f = some (PySem.W.kla_obj "<lambda>" (X.env.qual ++ "<lambda>") params body scope (cloFrom X.env.cells scope.names []) pm c' ctv)) (hfn : H f = none) (hfr : f ∉ frs X.stack)
    (hbind : bindArgs (PySem.W.kla_fn "<lambda>" (X.env.qual ++ "<lambda>") params body scope (cloFrom X.env.cells scope.names []) pm (.ref c') ctv) ⟨[], []⟩ = pure [])
    (tk : Takes ((cxOf CXg X.prog X.w X.K X.mg X.base Ng qg sg g cdg X.A X.stack s H Eg).tr pn xe) W) (hr : Room (k + 1) (X.A.deeper (envOfC qg sg s.heap.objs.size g cdg)))
    (hbody : ∀ (A : Around) (outer : List Env) (s : Shared) (H : Hp) (E : XK), A.guards = X.A.guards → Room k (A.deeper (lamEnv X scope s.heap.objs.size f c')) → PE (lamCx X A outer s H E scope f c') body (tb E))
    (hN : Ng[i]? = some a) (hv : Vis sg a) (hd : (a == ("__debug__" : Str)) = false := by decide) (hcd : (a == ("__classdict__" : Str)) = false := by decide) :
    PE ((cxOf CXg X.prog X.w X.K X.mg X.base Ng qg sg g cdg X.A X.stack s H Eg).tr pn xe) (.Call (.Name a p1) [] [] p2)
      (fun σZ HZ Q => σZ[i]? = some (some (.ref f)) ∧ HZ c' = some (CodeO c' (X.env.qual ++ "<lambda>")) ∧ tb (fun cls d H' => W cls d σZ H') σ HZ Q) := by
  refine ⟨fun pinsZ sZ σZ HZ Q IZ h => ?_⟩
  obtain ⟨hs, hc, ht⟩ := h
  obtain ⟨E, eE⟩ : ∃ E : XK, E = fun cls d H' => W cls d σZ H' := ⟨_, rfl⟩
  rw [← eE] at ht
  refine wpAny_Call_Name_kw (thn ((pe_var (pos := p1) (i := i) hN hv hd hcd).run pinsZ sZ σZ HZ (fun v H1 => v = .ref f ∧ H1 = HZ) IZ ⟨.ref f, hs, rfl, rfl⟩) fun u s1 ⟨v, H1, I1, r1, q1⟩ => ?_)
  obtain ⟨ev, eH⟩ := q1
  subst ev
  rw [eH] at I1
  obtain rfl : u = Value.ref f := r1
  have of1 : s1.heap.get? f = some (PySem.W.kla_obj "<lambda>" (X.env.qual ++ "<lambda>") params body scope (cloFrom X.env.cells scope.names []) pm c' ctv) := I1.base.keep f _ hf hfn hfr (fun z => nomatch (show f ∈ ([] : List Addr) from z))
  refine PySem.W.callWith_F0 ⟨_, _, _, _, of1⟩ ?_
  have un : Un (frs X.stack) [] H HZ s.heap s1.heap := I1.base
  obtain ⟨⟨oc, vs, t, hoc, hdc, hvc⟩, _, _⟩ := I1.hok c' _ hc
  have rc : codeAny (model X.prog X.w) (X.A.deeper (envOfC qg sg s.heap.objs.size g cdg)) (.call (.ref f) ⟨[], []⟩) (CR (L2.CX X.prog X.w) (envOfC qg sg s.heap.objs.size g cdg :: X.stack) X.prog X.w HZ s1 Q E) s1 := by
    refine PySem.W.kla_callFunE hr.depth of1 rfl L.co L.gen rfl ⟨c', oc, vs, t, rfl, hoc, hdc, hvc⟩ ?_
    rw [hbind]
    refine wpAny_pure (wpAny_newFunctionEnv (fun y hy => (L.own y hy).2) (fun y hy => absurd hy (by simp)) (fun h₁ hns hsb => ⟨I1.nolimit.fresh _ hsb, ?_⟩) L.kind)
    show codeAny _ _ (.expr body (lamEnv X scope s1.heap.objs.size f c')) _ _
    have kp : ∀ b o, s1.heap.get? b = some o → h₁.get? b = some o := fun b o e => hsb.extBut b o (Nat.ne_of_lt (Heap.lt_size e)) (Heap.get?_push_of_some _ e)
    have J : Inv (lamCx X (X.A.deeper (envOfC qg sg s.heap.objs.size g cdg)) (envOfC qg sg s.heap.objs.size g cdg :: X.stack) s1 HZ E scope f c') [] σ HZ { s1 with heap := h₁, toks := s1.toks + ([] : List (Str × Value)).length } :=
      lam_start2 I L I1.env0 hr.hd un hns kp
    refine PySem.W.kla_codeExpr (wpAny_mono ((hbody (X.A.deeper (envOfC qg sg s.heap.objs.size g cdg)) _ s1 HZ E rfl (hr.deeper _)).run [] _ _ HZ Q J ht) (fun v s' hq => ?_) fun e s' hq => hq)
    obtain ⟨w', H', J', rv, q⟩ := hq
    exact ⟨w', H', J'.os, J'.bare, J'.base, J'.hok, rv, q⟩
  refine wpAny_call (codeAny_mono rc fun r s' hq => ?_)
  cases r with
  | error e => exact tk e s' (XE.of_call I1 (fun cls d H' h => by rw [eE] at h; exact h) hq)
  | ok fl =>
    cases fl with
    | ret u => exact I1.after hq
    | next => exact False.elim hq
    | brk => exact False.elim hq
    | cont => exact False.elim hq
end
/-- the def that calls what it got, what leaves told of its own names -/
def GivesS (X : Cx) (Ng : List Str) (x : Str) (sg : Scope) (g : Addr) (cdg : Value) (bg : List Stmt) (a : Str) (q : Str) (TT : (XK → Hp → VK → Prop) → Hp → VK → Prop) : Prop :=
  ∀ (f c' : Addr) (s : Shared) (H : Hp) (Q : VK) (tl : XK → Hp → VK → Prop),
    (∀ (W : WX) (pn : List (Addr × Obj)) (xe : Value → Shared → Prop) (p1 p2 : Pos), Takes ((cxOf C8.CX0 X.prog X.w X.K X.mg X.base Ng x sg g cdg X.A X.stack s H C8.E0).tr pn xe) W →
      PE ((cxOf C8.CX0 X.prog X.w X.K X.mg X.base Ng x sg g cdg X.A X.stack s H C8.E0).tr pn xe) (.Call (.Name a p1) [] [] p2) (fun σZ HZ Q => σZ[0]? = some (some (.ref f)) ∧ HZ c' = some (CodeO c' q) ∧ tl (fun cls d H' => W cls d σZ H') HZ Q)) →
    H c' = some (CodeO c' q) → TT tl H Q →
    ∃ t, PSs (cxOf C8.CX0 X.prog X.w X.K X.mg X.base Ng x sg g cdg X.A X.stack s H C8.E0).nox bg t ∧ t { nx := fun _ H' => Q .non H', rt := Q } (L2.start Ng [.ref f]) H
def tLamN (T : List NTab) (TT : (XK → Hp → VK → Prop) → Hp → VK → Prop) (t : XK → TE) : TE := fun σ H Q => TabsN T H ∧ ∀ H1, Sm T H H1 → TabsN T H1 → TT (fun E H' Q' => t E σ H' Q') H1 Q
section
variable {X : Cx}
/-- x(lambda: body) -/
theorem pe_lamcallS {T : List NTab} {nm : Nat → Nat → Str} {TT : (XK → Hp → VK → Prop) → Hp → VK → Prop} {x a : Str} {g c P : Addr} {k : Nat} {pg : Arguments} {bg : List Stmt} {sg : Scope} {dV kV doc pm cdv ct oc : Value} {an od : Option Addr} {osl : Array (Option Value)} {Ng : List Str}
    {params : Arguments} {body : Expr} {scope : Scope} {t : XK → TE} {p lpos pos : Pos} (hg : Gl X x) (hm : X.mg x = some (.ref g)) (hk : PySem.W.keepIn X.K (.ref g) = true)
    (lk : X.K.lookup g = some ⟨oc, od, .func (PySem.W.fnOf x x pg bg sg dV kV doc pm an cdv ct), osl⟩) (hcg : PySem.W.codeIn X.K cdv x = true) (hb : L2.Binds X.K (PySem.W.fnOf x x pg bg sg dV kV doc pm an cdv ct) [a] []) (Sg : FnScope Ng [a] sg) (hNg : Ng[0]? = some a) (hva : Vis sg a)
    (hG : GivesS X Ng x sg g cdv bg a (X.env.qual ++ "<lambda>") TT)
    (TB : TabB X.base X.mg c P) (hcode : X.env.code = .ref c) (hmT : (P, nm) ∈ T) (hn : nm lpos.line lpos.col = X.env.qual ++ "<lambda>") (hu : ∀ p ∈ T, p.1 = P → p.2 = nm) (hr : Room (k + 2) X.A) (L : LamS X.env.scope scope) (hdef : defaultsOf params X.env = ([], []))
    (hbind : ∀ (q : Str) (cl : List (Str × Addr)) (pm cv ctv : Value), bindArgs (PySem.W.kla_fn "<lambda>" q params body scope cl pm cv ctv) ⟨[], []⟩ = pure [])
    (hbody : ∀ (A : Around) (outer : List Env) (s : Shared) (H : Hp) (E : XK) (f c' : Addr), A.guards = X.A.guards → Room k (A.deeper (lamEnv X scope s.heap.objs.size f c')) → PE (lamCx X A outer s H E scope f c') body (t E))
    (hdb : (x == ("__debug__" : Str)) = false := by decide) (hd : (a == ("__debug__" : Str)) = false := by decide) (hcd : (a == ("__classdict__" : Str)) = false := by decide) :
    PE X (.Call (.Name x p) [.Lambda params body scope lpos] [] pos) (tLamN T TT t) := by
  refine ⟨fun pins s σ H Q I h => ?_⟩
  obtain ⟨hT, h⟩ := h
  refine wpAny_Call_Name_kw (ld_glob I hg hm ?_ hdb)
  refine PySem.W.callWith_K (h₀ := X.base) I.ok.mod.kin hk ?_ (by rfl) (by rfl)
  show wpAny _ _ (spliced ((false, eval (.Lambda params body scope lpos) X.env) :: backTo pos (starEach [] X.env))) _ _ s
  refine Calls.spliced_cons (lam_make4 I TB hcode hmT hn hu hT hdef (L.has I.ok) fun f c' pm' ctv H1 s' I1 sm T1 hf hfn hfr hco => ?_)
  refine Calls.spliced_nil ⟨I1.kIn, ?_⟩
  have rc : codeAny (model X.prog X.w) X.A (.call (.ref g) ⟨[.ref f], []⟩) (CR C8.CX0 X.stack X.prog X.w H1 s' Q C8.E0) s' := by
    refine run_ofS (N := Ng) (ps := [a]) (us := [.ref f]) (vs := [.ref f]) lk hcg Sg hr I1.env0 (hb s' [.ref f] I1.kIn rfl) (.cons rfl .nil) rfl fun hr' => ?_
    obtain ⟨t', ht', hq'⟩ := hG f c' s' H1 Q (fun E H' Q' => t E σ H' Q') (fun W pn xe p1 p2 tk => pe_actS (i := 0) I1 L hf hfn hfr (hbind _ _ _ _ _) tk hr' (fun A outer s H E hg2 hr2 => hbody A outer s H E f c' hg2 hr2) hNg hva hd hcd) hco (h H1 sm T1)
    exact ⟨t', ht'.nox, hq'⟩
  refine wpAny_call (codeAny_mono rc fun r s2 hq => ?_)
  cases r with
  | error e => exact (show False from hq).elim
  | ok fl =>
    cases fl with
    | ret u => exact I1.after hq
    | next => exact (show False from hq).elim
    | brk => exact (show False from hq).elim
    | cont => exact (show False from hq).elim
end
end Kf

set_option Elab.async false
set_option linter.all false
set_option maxRecDepth 100000
set_option maxHeartbeats 2000000
namespace Kf
open PySem PySem.Spec PyProof.Rows L2 LamX NdefX
/-! ## what may raise -/
abbrev TVX := EnvD → (Rv → EnvD → Prop) → (Addr → List (Str × PyData) → EnvD → Prop) → Prop
def liftX (B : Bas) (t : TVX) : TE := fun σ H Q => ∃ own E R Rx, Rep B own σ H E ∧ t E R Rx ∧ (∀ r E' own' v H', R r E' → Evo own H own' H' → RvAt B.K B.W own' H' .tmp v r → Rep B own' σ H' E' → Q v H') ∧
  ∀ C fs E' own' d H', Rx C fs E' → Evo own H own' H' → ExcD B.K (hid own' H') d fs → Rep B own' σ H' E' → B.wx (.ref C) d σ H'
theorem Rep.wx {B : Bas} {own : Owns} {σ : L2.St} {H : Hp} {E : EnvD} (R : Rep B own σ H E) (W : WX) : Rep { B with wx := W } own σ H E := ⟨R.len, R.al, R.bs, R.ss, R.tb, R.fr, R.nw, R.wd, R.sl, R.pin⟩
theorem Rep.unwx {B : Bas} {own : Owns} {σ : L2.St} {H : Hp} {E : EnvD} {W : WX} (R : Rep { B with wx := W } own σ H E) : Rep B own σ H E := ⟨R.len, R.al, R.bs, R.ss, R.tb, R.fr, R.nw, R.wd, R.sl, R.pin⟩
/-- a def that may raise, as a promise -/
def spTX (T : List NTab) (K : KW) (n : Nat) (tf : List Rv → (Rv → Prop) → (Addr → List (Str × PyData) → Prop) → Prop) : Sp := fun vs H Q E => ∃ S rs R Rx W, vs.length = n ∧ Sub S H ∧ TabsN T H ∧ Wf W S H ∧ Paired (RvS K W S) vs rs ∧ tf rs R Rx ∧
  (∀ r v S' H', R r → StpW T W S H S' H' → RvN K W H S' H' v r → Q v H') ∧ ∀ C fs d S' H', Rx C fs → StpW T W S H S' H' → ExcD K S' d fs → E (.ref C) d H'
def defTX (n : Nat) (t : TSD) : List Rv → (Rv → Prop) → (Addr → List (Str × PyData) → Prop) → Prop := fun rs R Rx => t { nx := fun _ => R (.d .none), rt := fun r _ => R r, rs := fun C fs _ => Rx C fs } (rs.map some ++ List.replicate (n - rs.length) none)
theorem fnokX {K : KW} {mg : Str → Option Value} {base : Heap} {T : List NTab} {x qual : Str} {st : Stmt} {f : Addr} {fd : FuncData} {N ps : List Str} {k : Nat} {t : TSD} (F : L2.Fun K x qual st f fd) (S : FnScope N ps (defScope st))
    (hb : ∀ (cdv : Value) (A : Around) (outer : List Env) (s : Shared) (H : Hp) (E : XK) (B : Bas), B.K = K → B.T = T → B.gv.map (·.1) = [] → Takes (cxOf (L2.CX K.P K.w) K.P K.w K.K mg base N qual (defScope st) f cdv A outer s H E) B.wx → Room k (A.deeper (envOfC qual (defScope st) s.heap.objs.size f cdv)) → PSs (cxOf (L2.CX K.P K.w) K.P K.w K.K mg base N qual (defScope st) f cdv A outer s H E) (defBody st) (liftS B t)) :
    FnOk K.P K.w K.K mg base (L2.CX K.P K.w) (k + 1) f fd ps (spTX T K ps.length (defTX N.length t)) := (fnokMX (ios := []) F S hb).imp fun vs H Q E h => by
  obtain ⟨S0, rs, R, Rx, W, hl, sub, tb, wf, pr, ht, k, kx⟩ := h
  have ng : ∀ a, ¬ gvA [] a := fun a ⟨i, m⟩ => by cases m
  have st' : ∀ {S' H' : Hp}, StpM T W [] S0 H S' H' → StpW T W S0 H S' H' := fun {S' H'} st => ⟨st.sm.up fun a m => m.elim id fun z => (ng a z).elim, st.ss, st.sub, fun a h1 h2 => st.sep a h1 h2 (ng a), st.kp⟩
  refine ⟨S0, rs, fun r _ => R r, fun C fs _ => Rx C fs, W, [], hl, sub, tb, wf, rfl, .nil, pairsR pr, ht, fun r os v S' H' hr st rn _ => ?_, fun C fs os d S' H' hr st x _ => kx C fs d S' H' hr (st' st) x⟩
  refine k r v S' H' hr (st' st) ?_
  cases r with
  | o y =>
    obtain ⟨p, e1, e2, e3, e4, _⟩ := rn
    exact ⟨p, e1, e2.resolve_right (ng p), e3, e4⟩
  | _ => exact rn
structure CalX (P : Program) (w : World) (K : PySem.W.Frag) (mg : Str → Option Value) (base : Heap) (k : Nat) (x : Str) (ps : List Str) (sp : Sp) : Prop where
  ex : ∃ f fd, mg x = some (.ref f) ∧ PySem.W.keepIn K (.ref f) = true ∧ Binds K fd ps [] ∧ FnOk P w K mg base (L2.CX P w) k f fd ps sp
/-- .. where it doesn't raise -/
theorem FnOk.calm {P : Program} {w : World} {K : PySem.W.Frag} {mg : Str → Option Value} {base : Heap} {k : Nat} {f : Addr} {fd : FuncData} {ps : List Str} {sp : Sp} (F : FnOk P w K mg base (L2.CX P w) k f fd ps sp) : FnOk P w K mg base CX0 k f fd ps (fun vs H Q _ => sp vs H Q E0) :=
  ⟨fun vs H Q E h => F.len vs H Q E0 h, fun A outer s H args us vs Q E hr e0 hb r h => codeAny_mono (F.run A outer s H args us vs Q E0 hr e0 hb r h) fun r s' hq => by
    cases r with
    | error e =>
      obtain ⟨_, _, _, _, _, _, _, _, _, _, _, _, z⟩ := (show L2.CX P w outer H s E0 e s' from hq)
      exact z.elim
    | ok fl => cases fl <;> exact hq⟩
def calmF (tf : List Rv → (Rv → Prop) → (Addr → List (Str × PyData) → Prop) → Prop) : List Rv → (Rv → Prop) → Prop := fun rs R => tf rs R fun _ _ => False
theorem spT_spTX {T : List NTab} {K : KW} {n : Nat} {tf : List Rv → (Rv → Prop) → (Addr → List (Str × PyData) → Prop) → Prop} {vs : List V} {H : Hp} {Q : VK} {E : XK} (h : spT T K n (calmF tf) vs H Q E) : spTX T K n tf vs H Q E0 := by
  obtain ⟨S, rs, R, W, hl, sub, tb, wf, pr, ht, k⟩ := h
  exact ⟨S, rs, R, fun _ _ => False, W, hl, sub, tb, wf, pr, ht, k, fun _ _ _ _ _ z => z.elim⟩
theorem CalX.calm {P : Program} {w : World} {K : PySem.W.Frag} {mg : Str → Option Value} {base : Heap} {k n : Nat} {x : Str} {ps : List Str} {T : List NTab} {KK : KW} {tf : List Rv → (Rv → Prop) → (Addr → List (Str × PyData) → Prop) → Prop} (C : CalX P w K mg base k x ps (spTX T KK n tf)) : Cal P w K mg base k x ps (spT T KK n (calmF tf)) := by
  obtain ⟨f, fd, h1, h2, h3, F⟩ := C.ex
  exact ⟨f, fd, h1, h2, h3, (FnOk.calm F).imp fun _ _ _ _ h => spT_spTX h⟩
/-! ### calls -/
def tCallX (sp : Sp) (W : WX) (t : TA) : TE := fun σ H Q => t σ H fun vs H1 => sp vs H1 Q fun cls d H' => W cls d σ H'
section
variable {X : Cx} {B : Bas} {W : WX} {a b c e : Expr} {es : List Expr} {te : TV} {tx : TVX} {ts : TVs} {pos : Pos}
theorem pe_calX {j k : Nat} {x : Str} {ps : List Str} {sp : Sp} {p : Pos} {t : TA} (C : CalX X.prog X.w X.K X.mg X.base k x ps sp) (tk : Takes X W) (hk : k ≤ j) (hr : Room j X.A) (hg : Gl X x) (ha : PA X (e :: es) t) (hdb : (x == ("__debug__" : Str)) = false := by decide)
    (he : starEach (e :: es) X.env = (false, eval e X.env) :: starEach es X.env := by rfl) (hpl : (backTo pos (starEach es X.env)).any (·.1) = false := by rfl) : PE X (.Call (.Name x p) (e :: es) [] pos) (tCallX sp W t) := by
  obtain ⟨f, fd, m, kp, hb, F⟩ := C.ex
  refine ⟨fun pins s σ H Q I h => ?_⟩
  refine wpAny_Call_Name_kw (ld_glob I hg m ?_ hdb)
  refine PySem.W.callWith_K (h₀ := X.base) I.ok.mod.kin kp (thn (ha.run pos pins s σ H _ I h) fun us s1 ⟨vs, H1, I1, r, q⟩ => ⟨I1.kIn, ?_⟩) he hpl
  have hl : us.length = ps.length := by rw [← r.length]; exact F.len _ _ _ _ q
  have hb2 : BindsTo s1 fd ⟨us, []⟩ (ps.zip us) := by
    have := hb s1 us I1.kIn (by simpa using hl)
    simpa using this
  refine wpAny_call (codeAny_mono (F.run X.A X.stack s1 H1 ⟨us, []⟩ us vs Q _ (hr.mono hk) I1.env0 hb2 r q) fun r s' hq => ?_)
  cases r with
  | error e => exact tk e s' (XE.of_call I1 (fun cls d H' h => h) hq)
  | ok fl =>
    cases fl with
    | ret u => exact I1.after hq
    | next => exact False.elim hq
    | brk => exact False.elim hq
    | cont => exact False.elim hq
def dCalX (n : Nat) (tf : List Rv → (Rv → Prop) → (Addr → List (Str × PyData) → Prop) → Prop) (ts : TVs) : TVX := fun E R Rx => ts E fun rs E1 => rs.length = n ∧ tf rs (fun r => R r E1) fun C fs => Rx C fs E1
theorem ExcD.at {own : Owns} {σ : L2.St} {H S' H' : Hp} {E : EnvD} {d : Option Addr} {fs : List (Str × PyData)} (R : Rep B own σ H E) (st : StpW B.T B.W (hid own H) H S' H') (x : ExcD B.K S' d fs) : ∃ own', Rep B own' σ H' E ∧ Evo own H own' H' ∧ ExcD B.K (hid own' H') d fs := by
  obtain ⟨R2, ev⟩ := R.stepW st.sm st.kp
  exact ⟨own, R2, ev, x.sm (st.hid R.al)⟩
theorem ev_calX {j k n : Nat} {x : Str} {ps : List Str} {p : Pos} {tf : List Rv → (Rv → Prop) → (Addr → List (Str × PyData) → Prop) → Prop} (C : CalX X.prog X.w X.K X.mg X.base k x ps (spTX B.T B.K n tf)) (tk : Takes X B.wx) (hk : k ≤ j) (hr : Room j X.A) (hg : Gl X x) (ha : PA X (e :: es) (liftA B ts)) (hdb : (x == ("__debug__" : Str)) = false := by decide)
    (he : starEach (e :: es) X.env = (false, eval e X.env) :: starEach es X.env := by rfl) (hpl : (backTo pos (starEach es X.env)).any (·.1) = false := by rfl) : PE X (.Call (.Name x p) (e :: es) [] pos) (liftX B (dCalX n tf ts)) := PE_mono (pe_calX C tk hk hr hg ha hdb he hpl) fun σ H Q hq => by
  obtain ⟨own, E, R, Rx, rep, ht, k, kx⟩ := hq
  refine ⟨own, E, _, rep, ht, fun rs E1 own1 vs H1 q1 ev1 rs1 rep1 => ?_⟩
  refine ⟨hid own1 H1, rs, _, _, B.W, by rw [pairLen rs1]; exact q1.1, hid_sub, rep1.tb, rep1.wf, rs1, q1.2, fun r v S' H' hr st rn => ?_, fun C fs d S' H' hr st x => ?_⟩
  · obtain ⟨own3, rep3, ev3, ra⟩ := rep1.resW st rn
    exact k r E1 own3 v H' hr (ev1.trans ev3) ra rep3
  · obtain ⟨own3, rep3, ev3, x3⟩ := ExcD.at rep1 st x
    exact kx C fs E1 own3 d H' hr (ev1.trans ev3) x3 rep3
/-- nothing is raised -/
def dXof (t : TV) : TVX := fun E R _ => t E R
theorem ex_of (h : PE X e (liftE B te)) : PE X e (liftX B (dXof te)) := PE_mono h fun σ H Q hq => by
  obtain ⟨own, E, R, Rx, rep, ht, k, _⟩ := hq
  exact ⟨own, E, R, rep, ht, k⟩
/-! ### statements -/
def sDropX (tx : TVX) : TSD := fun D E => tx E (fun _ E1 => D.nx E1) D.rs
def sRetX (tx : TVX) : TSD := fun D E => tx E D.rt D.rs
def sSetX (i : Nat) (tx : TVX) : TSD := fun D E => tx E (fun r E1 => i < E1.length ∧ D.nx (E1.set i (some r))) D.rs
theorem es_exprX (he : PE X e (liftX B tx)) (hs : swapsWith e none pos.line X.env = pure false := by rfl) : PS X (.Expr e pos) (liftS B (sDropX tx)) := PS_mono (ps_expr he hs) fun D σ H hq => by
  obtain ⟨own, E, De, rep, ht, k1, k2, k3, k4, k5⟩ := hq
  exact ⟨own, E, _, _, rep, ht, fun r E' own' v H' q ev ra rep' => k1 own' E' σ H' q ev rep', fun C fs E' own' d H' q ev x rep' => k5 C fs own' E' σ d H' q ev x rep'⟩
theorem es_retX (he : PE X e (liftX B tx)) : PS X (.Return (some e) pos) (liftS B (sRetX tx)) := PS_mono (ps_ret he) fun D σ H hq => by
  obtain ⟨own, E, De, rep, ht, k1, k2, k3, k4, k5⟩ := hq
  exact ⟨own, E, _, _, rep, ht, fun r E' own' v H' q ev ra rep' => k2 r own' E' σ v H' q ra rep', fun C fs E' own' d H' q ev x rep' => k5 C fs own' E' σ d H' q ev x rep'⟩
theorem es_setX {i : Nat} {x : Str} {pos' : Pos} (hio : ∀ a, (i, a) ∉ B.gv) (h : PS X (.Assign [.Name x pos'] e pos) (tAsg (liftX B tx) (gName i))) : PS X (.Assign [.Name x pos'] e pos) (liftS B (sSetX i tx)) := PS_mono h fun D σ H hq => by
  obtain ⟨own, E, De, rep, ht, k1, k2, k3, k4, k5⟩ := hq
  refine ⟨own, E, _, _, rep, ht, fun r E1 own1 v H1 q1 ev1 ra rep1 => ?_, fun C fs E' own' d H' q ev x rep' => k5 C fs own' E' σ d H' q ev x rep'⟩
  obtain ⟨own2, rep2, ev2⟩ := rep1.put ra q1.1 hio
  exact k1 own2 _ _ H1 q1.2 (ev1.trans ev2) rep2
end
end Kf

set_option Elab.async false
set_option linter.all false
set_option maxRecDepth 100000
set_option maxHeartbeats 2000000
namespace Kf
open PySem PySem.Spec PyProof.Rows L2 LamX NdefX
/-! ## instances that are never changed -/
section
variable {X : Cx} {B : Bas} {W : WX} {a b c e o : Expr} {es : List Expr} {te : TV} {tx : TVX} {ts : TVs} {pos apos p : Pos} {C : Addr} {f m : Str}
/-- e.f, an attribute of an instance of C -/
def dAtt (C : Addr) (f : Str) (te : TV) : TV := fun E R => te E fun r E1 => match r with
  | .ob C' fs => C' = C ∧ match fs.lookup f with
    | some d => R (.d d) E1
    | none => False
  | _ => False
theorem ev_att (hK : X.K = B.K.K) (hc : Cls X.K C) (hn : NoAttr X.K C f) (he : PE X e (liftE B te)) (hb : attributeBase e f X.env (eval e X.env) = eval e X.env := by rfl) : PE X (.Attribute e f pos) (liftE B (dAtt C f te)) := PE_mono (pe_fld he hb) fun σ H Q hq => by
  obtain ⟨own, E, R, rep, ht, k⟩ := hq
  refine ⟨own, E, _, rep, ht, fun r E1 own1 v H1 q1 ev1 ra rep1 => ?_⟩
  cases r with
  | ob C' fs =>
    obtain ⟨rfl, q⟩ := q1
    obtain ⟨x, dx, vs, rfl, hx, hf⟩ := ra
    cases e1 : fs.lookup f with
    | none => rw [e1] at q; exact q.elim
    | some d =>
      rw [e1] at q
      obtain ⟨v, h1, h2⟩ := hf.get e1
      exact ⟨x, C', dx, vs, v, rfl, (hid_some hx).2, hc, hn, h1, k (.d d) E1 own1 v H1 q ev1 h2 rep1⟩
  | _ => exact q1.elim
/-- a property of the class that gives the attribute f -/
structure PropE (P : Program) (w : World) (K : PySem.W.Frag) (mg : Str → Option Value) (base : Heap) (C : Addr) (x f : Str) : Prop where
  ex : ∃ p g fd, PropOf K C x p g ∧ Binds K fd ["self"] [] ∧ FnOk P w K mg base CX0 1 g fd ["self"] (getSp C f)
theorem ev_prop {j : Nat} {x : Str} (R : PropE X.prog X.w X.K X.mg X.base C x f) (c : Cls X.K C) (hj : 2 ≤ j) (hr : Room j X.A) (he : PE X e (liftE B te)) (hab : attributeBase e x X.env (eval e X.env) = eval e X.env := by rfl) : PE X (.Attribute e x pos) (liftE B (dAtt C f te)) := by
  obtain ⟨p, g, fd, hp, b, F⟩ := R.ex
  have h0 : PE X (.Attribute e x pos) (tProp C (getSp C f) [] E0 (liftE B te)) := pe_prop he c hp F (hr.mono hj) b .nil (fun _ _ _ _ _ _ _ z => z.elim) hab
  refine PE_mono h0 fun σ H Q hq => ?_
  obtain ⟨own, E, R, rep, ht, k⟩ := hq
  refine ⟨own, E, _, rep, ht, fun r E1 own1 v H1 q1 ev1 ra rep1 => ?_⟩
  cases r with
  | ob C' fs =>
    obtain ⟨rfl, q⟩ := q1
    obtain ⟨x, dx, vs, rfl, hx, hf⟩ := ra
    cases e1 : fs.lookup f with
    | none => rw [e1] at q; exact q.elim
    | some d =>
      rw [e1] at q
      obtain ⟨v, h1, h2⟩ := hf.get e1
      exact ⟨x, dx, vs, rfl, (hid_some hx).2, x, dx, vs, v, rfl, (hid_some hx).2, h1, k (.d d) E1 own1 v H1 q ev1 h2 rep1⟩
  | _ => exact q1.elim
/-! ### methods -/
/-- o.m(..): o's own attributes are none of them called m -/
def dMetX (C : Addr) (m : Str) (n : Nat) (tf : List Rv → (Rv → Prop) → (Addr → List (Str × PyData) → Prop) → Prop) (te : TV) (ts : TVs) : TVX := fun E R Rx => te E fun r E1 => match r with
  | .ob C' fs => (C' = C ∧ fs.lookup m = none) ∧ ts E1 fun rs E2 => (rs.length + 1 = n) ∧ tf (.ob C' fs :: rs) (fun r => R r E2) fun D gs => Rx D gs E2
  | _ => False
structure MtX (P : Program) (w : World) (K : PySem.W.Frag) (mg : Str → Option Value) (base : Heap) (k : Nat) (C : Addr) (m : Str) (sp : Sp) : Prop where
  ex : ∃ (f : Addr) (fd : FuncData) (ps : List Str), Cls K C ∧ Meth K C m f ∧ FnOk P w K mg base (L2.CX P w) k f fd ps sp ∧ Binds K fd ps []
def tMethX (C : Addr) (m : Str) (sp : Sp) (W : WX) (ta : TE) (t : TA) : TE := fun σ H Q => ta σ H fun x H1 => ∃ a dx fs, x = .ref a ∧ H1 a = some (.ins C dx fs) ∧ fs.lookup m = none ∧ t σ H1 fun vs H2 => sp (x :: vs) H2 Q fun cls d H' => W cls d σ H'
theorem pe_methX {k j : Nat} {sp : Sp} {ta : TE} {t : TA} {pl : Sem Bool} (M : MtX X.prog X.w X.K X.mg X.base k C m sp) (tk : Takes X W) (hk : k ≤ j) (hr : Room j X.A) (he : PE X o ta) (ha : PA X (e :: es) t)
    (hst : starEach (e :: es) X.env = (false, eval e X.env) :: starEach es X.env := by rfl) (hpl : (backTo pos (starEach es X.env)).any (·.1) = false := by rfl)
    (ht : eval (.Call (.Attribute o m apos) (e :: es) [] pos) X.env = (do
      let ov ← eval o X.env
      standAt apos.atName
      let (f, first) ← holding [ov] (getMethod ov m pl)
      callWith pos f first (backTo pos (starEach (e :: es) X.env)) (backToKw pos (keywordEach [] X.env))) := by rfl) :
    PE X (.Call (.Attribute o m apos) (e :: es) [] pos) (tMethX C m sp W ta t) := by
  obtain ⟨f, fd, ps, c, hm, F, hb⟩ := M.ex
  refine ⟨fun pins s σ H Q I h => ?_⟩
  refine PySem.W.methodCall_KW (pl := pl) (thn (he.run pins s σ H _ I h) fun u s1 ⟨x, H1, I1, rx, a, dx, fs, ex, ea, l, q⟩ => ?_) ht
  subst ex
  obtain rfl : u = Value.ref a := rx
  refine getmeth_ok I1 ea c hm l ?_
  refine PySem.W.callWith_K (first := [.ref a]) (h₀ := X.base) I.ok.mod.kin hm.kp (thn (ha.run pos pins s1 σ H1 _ I1 q) fun us s2 ⟨vs, H2, I2, r, q2⟩ => ⟨I2.kIn, ?_⟩) hst hpl
  have r2 : Vals (V.ref a :: vs) (Value.ref a :: us) := .cons rfl r
  have hl : (Value.ref a :: us).length = ps.length := by rw [← r2.length]; exact F.len _ _ _ _ q2
  have hb2 : BindsTo s2 fd ⟨Value.ref a :: us, []⟩ (ps.zip (Value.ref a :: us)) := by
    have := hb s2 (Value.ref a :: us) I2.kIn (by simpa using hl)
    simpa using this
  refine wpAny_call (codeAny_mono (F.run X.A X.stack s2 H2 ⟨Value.ref a :: us, []⟩ (Value.ref a :: us) (V.ref a :: vs) Q _ (hr.mono hk) I2.env0 hb2 r2 q2) fun r s' hq => ?_)
  cases r with
  | error e => exact tk e s' (XE.of_call I2 (fun cls d H' h => h) hq)
  | ok fl =>
    cases fl with
    | ret u => exact I2.after hq
    | next => exact False.elim hq
    | brk => exact False.elim hq
    | cont => exact False.elim hq
theorem DaF.none {K : KW} {S : Hp} : ∀ {vs : List (Str × V)} {ds : List (Str × PyData)}, DaF K S vs ds → ∀ {f : Str}, ds.lookup f = none → vs.lookup f = none
  | _, _, .nil, f, h => rfl
  | _, _, .cons (k := k) h r, f, e => by
    rw [List.lookup_cons] at e ⊢
    cases q : f == k with
    | true => rw [q] at e; cases e
    | false => rw [q] at e; exact DaF.none r e
theorem ev_metX {k j n : Nat} {tf : List Rv → (Rv → Prop) → (Addr → List (Str × PyData) → Prop) → Prop} {pl : Sem Bool} (M : MtX X.prog X.w X.K X.mg X.base k C m (spTX B.T B.K n tf)) (tk : Takes X B.wx) (hk : k ≤ j) (hr : Room j X.A) (he : PE X o (liftE B te)) (ha : PA X (e :: es) (liftA B ts))
    (hst : starEach (e :: es) X.env = (false, eval e X.env) :: starEach es X.env := by rfl) (hpl : (backTo pos (starEach es X.env)).any (·.1) = false := by rfl)
    (ht : eval (.Call (.Attribute o m apos) (e :: es) [] pos) X.env = (do
      let ov ← eval o X.env
      standAt apos.atName
      let (f, first) ← holding [ov] (getMethod ov m pl)
      callWith pos f first (backTo pos (starEach (e :: es) X.env)) (backToKw pos (keywordEach [] X.env))) := by rfl) :
    PE X (.Call (.Attribute o m apos) (e :: es) [] pos) (liftX B (dMetX C m n tf te ts)) := PE_mono (pe_methX (pl := pl) M tk hk hr he ha hst hpl ht) fun σ H Q hq => by
  obtain ⟨own, E, R, Rx, rep, ht, k, kx⟩ := hq
  refine ⟨own, E, _, rep, ht, fun r E1 own1 v H1 q1 ev1 ra rep1 => ?_⟩
  cases r with
  | ob C' fs =>
    obtain ⟨⟨rfl, hno⟩, q1⟩ := q1
    have ra0 := ra
    obtain ⟨x, dx, vs, rfl, hx, hf⟩ := ra
    refine ⟨x, dx, vs, rfl, (hid_some hx).2, DaF.none hf hno, own1, E1, _, rep1, q1, fun rs E2 own2 ws H2 q2 ev2 rs2 rep2 => ?_⟩
    have ra2 : RvS B.K B.W (hid own2 H2) (.ref x) (.ob C' fs) := RvS.sm ev2.ex ra0
    refine ⟨hid own2 H2, .ob C' fs :: rs, _, _, B.W, by show ws.length + 1 = n; rw [pairLen rs2]; exact q2.1, hid_sub, rep2.tb, rep2.wf, .cons ra2 rs2, q2.2, fun r v S' H' hr st rn => ?_, fun D gs d S' H' hr st x => ?_⟩
    · obtain ⟨own3, rep3, ev3, ra⟩ := rep2.resW st rn
      exact k r E2 own3 v H' hr ((ev1.trans ev2).trans ev3) ra rep3
    · obtain ⟨own3, rep3, ev3, x3⟩ := ExcD.at rep2 st x
      exact kx D gs E2 own3 d H' hr ((ev1.trans ev2).trans ev3) x3 rep3
  | _ => exact q1.elim
end
end Kf

set_option Elab.async false
set_option linter.all false
set_option maxRecDepth 100000
set_option maxHeartbeats 2000000
/-! an own exception over ValueError whose __init__ says super().__init__(text) first -/
namespace L2
open PySem PySem.Spec PyProof.Rows NdefX
/-- what the written part says of such a class -/
structure FtC (P : Program) (K : PySem.W.Frag) (mg : Str → Option Value) (C cc cda : Addr) : Prop where
  ox : OexC K C
  cell : ∃ cl cld csl, K.lookup cc = some ⟨cl, cld, .cell (some (.ref C)), csl⟩
  code : ∃ ccl cdd vs ccs file tf, K.lookup cda = some ⟨ccl, cdd, .fields vs, ccs⟩ ∧ vs[2]? = some (.str file tf) ∧ ((P.main.file : Str) == file) = true
  cls : ∃ cd, PySem.W.clsIn K C = some cd ∧ PySem.W.alongIn K "__init__" ((cd.mro.dropWhile (· != .ref C)).drop 1) = some (some (.builtin "ValueError.__init__"))
  sub : PySem.W.mroIn K C (.ref C) = some true
  ve : PySem.W.mroIn K C (.type "ValueError") = some true
  op : PySem.W.nsIn K PySem.cStatics "thirdparty.any" = some none
  sup : mg "super" = none
  top : (P.main.scope.names.lookup ("super" : Str)).isSome = false
section
variable {X : Cx} {pins : List (Addr × Obj)} {σ : St} {H : Hp} {s : Shared} {a C cc cda : Addr}
/-- the wrapper called -/
theorem wrap_call {u : Addr} {us : List Value} {Q : Value → Shared → Prop} (T : OexC X.K C) (I : Inv X pins σ H s) (hu : s.heap.get? u = some (PySem.W.kxs_mw "ValueError.__init__" a)) (e : H a = some (exo a C none)) (hl : us.length ≤ sizeLine) (h : ∀ s', Inv X pins σ H s' → Q .none s') :
    wpAny (model X.prog X.w) X.A (call (.ref u) us) Q X.xe s := by
  obtain ⟨nm, q, N, bs, bm, sn, sub, ab, col, dd, k0, k1, k2, k3, k5, hC, hbm⟩ := T.cls
  obtain ⟨t1, ho⟩ := exo_at I.hok e
  have hCh := I.kIn _ _ hC
  have fin : ∀ h', (∀ b o, b ≠ a → s.heap.get? b = some o → h'.get? b = some o) → (∃ t2 : Addr, h'.get? a = some ({ cls := .ref C, dict := none, data := .fields #[.ref t2, .none, .none, .none, .bool false, .none] } : Obj)) → Q .none { s with heap := h' } := fun h' k ⟨t2, hx⟩ => by
    have J := I.write (t' := s.toks) (x := a) (e := a) (o := exo a C none) (by rw [e]; exact True.intro) (.inl rfl) k ⟨_, hx⟩ (exo_ok hx)
    have eu : upd H a (exo a C none) = H := by
      funext b
      by_cases hb : b = a
      · rw [hb, upd_same, e]
      · rw [upd_ne hb]
    rw [eu] at J
    exact h _ J
  obtain ⟨hp, g, d, t, os⟩ := s
  refine wpAny_call (codeAny_of_tree ?_)
  show wpAny _ X.A.in1 (callAny (.ref u) ⟨us, []⟩) _ _ _
  simp only [callAny]
  refine wpAny_bind (wpAny_load hu ?_)
  simp only [PySem.W.kxs_mw, show (Value.type "method-wrapper" == Value.type "method" || Value.type "method-wrapper" == Value.type "builtin_function_or_method" || Value.type "method-wrapper" == Value.type "method-wrapper") = true by decide, if_true]
  refine PySem.W.KFB.if_so (by decide) ?_
  refine wpAny_bind (PySem.W.check_bound_init F.excBase_ValueError.toExcCallFacts hCh ho rfl ?_)
  refine wpAny_bind (wpAny_pure (wpAny_pure ?_))
  refine ⟨plainId_quiet F.excBase_ValueError.init.plain _, codeAny_builtin F.excBase_ValueError.initEntry ?_⟩
  rw [Around.under_plainId F.excBase_ValueError.init.plain _]
  refine PySem.W.exc_init_tree (cls := .ref C) (t0 := t1) (dv := none) (c2 := .none) (c3 := .none) (b4 := .bool false) ho hl fun h' k hx _ => ?_
  exact fin h' k ⟨_, hx⟩
theorem super_init {fI : Addr} {body : List Stmt} {of : Obj} {fd : FuncData} {ar : Arg} {e : Expr} {te : TE} {p0 p1 p2 p3 p4 : Pos} {q : Hp → Prop} (T : FtC X.prog X.K X.mg C cc cda) (I : Inv X pins σ H s)
    (hks : X.env.kindOf "super" = some .globalImplicit) (hkc : X.env.kindOf "__class__" = some .free) (hkl : X.env.kindOf ar.arg = some .local) (hfu : X.env.func = some fI) (hf : s.heap.get? fI = some of) (hfd : of.data = .func fd) (hp : (fd.params.posonlyargs ++ fd.params.args).head? = some ar) (hco : X.env.code = .ref cda) (hce : X.env.cells.lookup ("__class__" : Str) = some cc)
    (hN : X.N[0]? = some ar.arg) (h0 : σ[0]? = some (some (.ref a))) (ea : H a = some (exo a C none)) (he : PE X e te) (hq : te σ H fun _ H1 => H1 a = some (exo a C none) ∧ q H1)
    (hi : interactive X.env = false := by rfl) (hs : swapsWith (.Call (.Attribute (.Call (.Name "super" p0) [] [] p1) "__init__" p2) [e] [] p3) none p4.line X.env = pure false := by rfl)
    (hm : ∃ pl, eval (.Call (.Attribute (.Call (.Name "super" p0) [] [] p1) "__init__" p2) [e] [] p3) X.env = (do
      let ov ← attributeBase (.Call (.Name "super" p0) [] [] p1) "__init__" X.env (eval (.Call (.Name "super" p0) [] [] p1) X.env)
      standAt p2.atName
      let (f, first) ← holding [ov] (getMethod ov "__init__" pl)
      callWith p3 f first (backTo p3 (starEach [e] X.env)) []) := by exact ⟨_, rfl⟩)
    (hse : starEach [e] X.env = (false, eval e X.env) :: starEach [] X.env := by rfl) :
    _root_.PySem.wpAt (model X.prog X.w) X.A (.func body X.env) (exec (.Expr (.Call (.Attribute (.Call (.Name "super" p0) [] [] p1) "__init__" p2) [e] [] p3) p4) X.env) (fun fl s' => fl = .next ∧ ∃ H', Inv X pins σ H' s' ∧ q H') X.xe s := by
  obtain ⟨pl, hm⟩ := hm
  refine ks_wpAt_Expr_any (ks_wpAt_MethodCall (pl := pl) ?_ hm) hi hs
  obtain ⟨ccl, cdd, vs, ccs, file, tf, hcode, hvs, hfile⟩ := T.code
  obtain ⟨cl, cld, csl, hcell⟩ := T.cell
  obtain ⟨cd, hcd, hal⟩ := T.cls
  refine ks_wpAt_super_base hks hkc (by decide) hfu hf hfd hp hco (I.kIn _ _ hcode) rfl hvs hfile T.top ?_
  obtain ⟨mb, hb1, hb2⟩ := I.mod.blt
  refine PySem.W.ks_loadName_global I.ok.kind hks (Calls.loadGlobal_builtin (by rw [I.ok.glob]; exact I.mod.glob.keeps I.bk) T.sup (by rw [I.ok.blt]; exact hb1.keeps I.bk) ((hb2 "super" (by decide)).trans (by decide +kernel)) ⟨rfl, ?_⟩)
  refine wpAny_loadName_free I.ok.kind hkc hce ⟨_, I.kIn _ _ hcell, rfl⟩ ?_
  obtain ⟨m, hns, hlk⟩ := I.loc
  obtain ⟨u0, r0, hl0⟩ := hlk 0 ar.arg (.ref a) hN h0 (.inl hkl)
  obtain rfl : u0 = Value.ref a := r0
  have hma : m ar.arg = some (.ref a) := by
    rcases hl0 with ⟨_, h⟩ | ⟨h | h, _⟩
    · exact h
    · rw [hkl] at h; cases h
    · rw [hkl] at h; cases h
  refine wpAny_loadName_local I.ok.kind hkl hns hma ?_
  obtain ⟨oD, hD1, hD2⟩ : ∃ oD, s.heap.get? C = some oD ∧ oD.data = .cls cd := by
    have hD := hcd
    unfold PySem.W.clsIn at hD
    split at hD
    · rename_i c d cd' sl ho
      cases hD
      exact ⟨_, I.kIn _ _ ho, rfl⟩
    · cases hD
  refine PySem.ks_wpAny_isType_cls hD1 hD2 ⟨rfl, ?_⟩
  obtain ⟨t1, ho⟩ := exo_at I.hok ea
  have hxC : a ≠ C := fun z => by
    rw [z, hD1] at ho
    rw [Option.some.inj ho] at hD2
    cases hD2
  obtain ⟨hp0, g, d, t, os⟩ := s
  refine PySem.ks_wpAny_call_super hD1 hD2 ho rfl (fun c z => by cases z) (PySem.W.looks_mroIn I.kIn T.sub) (fun h' eso k => ?_)
  have I2 := I.kept (t' := t) (h' := h') k
  obtain ⟨t2, ho2⟩ := exo_at I2.hok ea
  refine PySem.W.kxs_getMethod PySem.W.kxs_ValueError eso (PySem.W.looks_opaque I2.kIn T.op) (l₀ := cd.mro) (l := (cd.mro.dropWhile (· != .ref C)).drop 1) ?_ rfl I2.kIn hal ?_ hxC (by decide) ?_
  · exact fun A Q E s k q => wpAny_bind ((PySem.W.looks_clsIn I2.kIn hcd) A _ E s k (wpAny_pure q))
  · have J : PySem.W.InstAt h' a _ C none := ⟨ho2, rfl, rfl, trivial⟩
    exact J.type.andThen (PySem.W.looks_mroIn I2.kIn T.ve)
  have I3 : Inv X ((h'.objs.size, PySem.W.kxs_mw "ValueError.__init__" a) :: pins) σ H ⟨h'.push (PySem.W.kxs_mw "ValueError.__init__" a), g, d, t + 1, os⟩ :=
    ClX.pin_new I2 (fun _ _ z => Heap.get?_push_of_some _ z) (Nat.le_refl _) (Heap.get?_push_size h' rfl) (fun v z => nomatch z)
  show wpAny _ _ (callWith p3 (.ref h'.objs.size) [] (backTo p3 (starEach [e] X.env)) []) _ _ _
  rw [hse]
  refine PySem.W.kxs_callWith (i := "ValueError.__init__") (x := a) rfl (Calls.evalArgs_plain (x := eval e X.env) (rest := backTo p3 (starEach [] X.env)) ?_)
  refine Calls.spliced_cons (thn (he.run _ _ σ H _ I3 hq) fun v s1 ⟨y, H1, I1, r1, ea1, q1⟩ => ?_)
  refine Calls.spliced_nil ⟨?_, ?_⟩
  · exact (I1.pin (h'.objs.size, PySem.W.kxs_mw "ValueError.__init__" a) (List.mem_append_right _ List.mem_cons_self)).1
  · refine wrap_call T.ox I1 ?_ ea1 (by rw [sizeLine_eq]; show 1 ≤ _; omega) fun s2 I4 => ⟨rfl, H1, I4.pins_of fun p hp => I4.pin p (List.mem_append.mpr ((List.mem_append.mp (show p ∈ X.pn ++ pins from List.mem_append_right _ hp)).imp id fun z => List.mem_cons_of_mem _ z)), q1⟩
    exact (I1.pin (h'.objs.size, PySem.W.kxs_mw "ValueError.__init__" a) (List.mem_append_right _ List.mem_cons_self)).1
end
end L2

set_option Elab.async false
set_option linter.all false
set_option maxRecDepth 100000
set_option maxHeartbeats 2000000
namespace L2
open PySem PySem.Spec PyProof.Rows NdefX
/-! ### a def with `super().__init__(e)` ahead, by its body -/
section
variable {CX : CXT} {P : Program} {w : World} {K : PySem.W.Frag} {mg : Str → Option Value} {base : Heap} {k : Nat} {C cc cda fI : Addr}
theorem fnok_super {name qual : Str} {params : Arguments} {scope : Scope} {dV kV doc pm ct oc : Value} {an od : Option Addr} {osl : Array (Option Value)} {rest : List Stmt} {e : Expr} {p0 p1 p2 p3 p4 : Pos} {N ps : List Str} {sp : Sp} {ar : Arg}
    (lk : K.lookup fI = some ⟨oc, od, .func (PySem.W.fnX name qual params (.Expr (.Call (.Attribute (.Call (.Name "super" p0) [] [] p1) "__init__" p2) [e] [] p3) p4 :: rest) scope [("__class__", cc)] dV kV doc pm an (.ref cda) ct), osl⟩)
    (hcd : PySem.W.codeIn K (.ref cda) qual = true) (S : NScope N ps ["__class__"] scope) (T : FtC P K mg C cc cda) (hks : scope.names.lookup ("super" : Str) = some .globalImplicit) (hp : (params.posonlyargs ++ params.args).head? = some ar) (har : ps[0]? = some ar.arg)
    (len : ∀ vs H Q E, sp vs H Q E → vs.length = ps.length)
    (hbody : ∀ (A : Around) (outer : List Env) (s : Shared) (H : Hp) (vs : List V) (Q : VK) (E : XK), Room k (A.deeper (envF ⟨name, qual, params, (.Expr (.Call (.Attribute (.Call (.Name "super" p0) [] [] p1) "__init__" p2) [e] [] p3) p4 :: rest), scope, [("__class__", cc)], cda⟩ fI s.heap.objs.size)) → sp vs H Q E →
      ∃ (a : Addr) (te : TE) (t : TS), vs[0]? = some (.ref a) ∧ H a = some (exo a C none) ∧ PE (ncx CX P w K mg base N ⟨name, qual, params, (.Expr (.Call (.Attribute (.Call (.Name "super" p0) [] [] p1) "__init__" p2) [e] [] p3) p4 :: rest), scope, [("__class__", cc)], cda⟩ fI A outer s H E) e te ∧
        PSs (ncx CX P w K mg base N ⟨name, qual, params, (.Expr (.Call (.Attribute (.Call (.Name "super" p0) [] [] p1) "__init__" p2) [e] [] p3) p4 :: rest), scope, [("__class__", cc)], cda⟩ fI A outer s H E) rest t ∧
        te (startF N vs [none]) H fun _ H1 => H1 a = some (exo a C none) ∧ t { nx := fun _ H' => Q .non H', rt := Q } (startF N vs [none]) H1)
    (hm : ∀ env : Env, ∃ pl, eval (.Call (.Attribute (.Call (.Name "super" p0) [] [] p1) "__init__" p2) [e] [] p3) env = (do
      let ov ← attributeBase (.Call (.Name "super" p0) [] [] p1) "__init__" env (eval (.Call (.Name "super" p0) [] [] p1) env)
      standAt p2.atName
      let (f, first) ← holding [ov] (getMethod ov "__init__" pl)
      callWith p3 f first (backTo p3 (starEach [e] env)) []) := by exact fun _ => ⟨_, rfl⟩)
    (hse : ∀ env : Env, starEach [e] env = (false, eval e env) :: starEach [] env := by exact fun _ => rfl) :
    FnOk P w K mg base CX (k + 1) fI (PySem.W.fnX name qual params (.Expr (.Call (.Attribute (.Call (.Name "super" p0) [] [] p1) "__init__" p2) [e] [] p3) p4 :: rest) scope [("__class__", cc)] dV kV doc pm an (.ref cda) ct) ps sp := by
  refine ⟨len, fun A outer s H args us vs Q E hr e0 hb r hsp => ?_⟩
  have KX : K.In s.heap := e0.mod.kin.keeps fun b o e => (e0.bs b o e).1
  have lim : s.heap.NoLimit := e0.mod.nolimit.keeps fun b o e => (e0.bs b o e).1
  have hl := len _ _ _ _ hsp
  obtain ⟨F, eF⟩ : ∃ F : NF, F = ⟨name, qual, params, (.Expr (.Call (.Attribute (.Call (.Name "super" p0) [] [] p1) "__init__" p2) [e] [] p3) p4 :: rest), scope, [("__class__", cc)], cda⟩ := ⟨_, rfl⟩
  refine PySem.ks_codeAny_call_defAt (binds := ps.zip us) hr.depth (KX _ _ lk) rfl lim (PySem.W.codeRec_of KX hcd) rfl hb S.nocell (fun ⟨n, _⟩ hy => S.par n (List.of_mem_zip hy).1) (fun h₁ hns kp => ?_) S.co S.gen S.kind
  obtain ⟨cl, cld, csl, hcell⟩ := T.cell
  have C0 : CellsAt [("__class__", cc)] ["__class__"] [none] s.heap H := by
    have one : ∀ {y : Str} {c : Addr}, List.lookup y [(("__class__" : Str), cc)] = some c → y = "__class__" ∧ c = cc := fun {y c} h => by
      rw [List.lookup_cons] at h
      by_cases hy : y = "__class__"
      · subst hy
        rw [beq_self_eq_true] at h
        exact ⟨rfl, (Option.some.inj h).symm⟩
      · rw [beq_eq_false_iff_ne.mpr hy] at h
        cases h
    refine ⟨rfl, fun y c h => ?_, fun x y c h1 h2 => (one h1).1.trans (one h2).1.symm, fun i y h => ?_⟩
    · obtain ⟨_, rfl⟩ := one h
      exact ⟨(e0.bs _ _ (e0.mod.kin _ _ hcell)).2, _, _, KX _ _ hcell, rfl⟩
    · cases i with
      | zero =>
        obtain rfl := Option.some.inj h
        exact ⟨cc, by rw [List.lookup_cons, beq_self_eq_true], fun v z => by cases z⟩
      | succ i => simp at h
  obtain ⟨a, te, t, hv0, ea, he, ht, hq⟩ := hbody A outer s H vs Q E (hr.deeper _) hsp
  subst eF
  have I : Inv (ncx CX P w K mg base N ⟨name, qual, params, (.Expr (.Call (.Attribute (.Call (.Name "super" p0) [] [] p1) "__init__" p2) [e] [] p3) p4 :: rest), scope, [("__class__", cc)], cda⟩ fI A outer s H E) [] (startF N vs [none]) H { s with heap := h₁, toks := s.toks + (ps.zip us).length } := inv_startN S hr.hd e0 hl r C0 hns kp
  have hps : 0 < ps.length := by
    cases ps with
    | nil => simp at har
    | cons _ _ => simp
  have hN0 : N[0]? = some ar.arg := by
    have e := congrArg (fun l : List Str => l[0]?) S.pre
    rw [List.getElem?_take_of_lt (by simp), List.getElem?_append_left hps] at e
    rw [e]
    exact har
  have hs0 : (startF N vs [none])[0]? = some (some (.ref a)) := by
    unfold startF
    rw [List.getElem?_append_left (by rw [List.length_map]; omega), List.getElem?_map, hv0]
    rfl
  have fin : ∀ {fl : Flow} {s' : Shared}, SP (ncx CX P w K mg base N ⟨name, qual, params, (.Expr (.Call (.Attribute (.Call (.Name "super" p0) [] [] p1) "__init__" p2) [e] [] p3) p4 :: rest), scope, [("__class__", cc)], cda⟩ fI A outer s H E) [] { nx := fun _ H' => Q .non H', rt := Q } fl s' → CR CX outer P w H s Q E (.ok (.ret (match fl with | .ret v => v | _ => .none))) s' := fun {fl s'} hs => by
    cases fl with
    | ret u =>
      obtain ⟨v, σ', H', J, rv, q⟩ := hs
      exact ⟨v, H', J.os, J.bare, J.base, J.hok, rv, q⟩
    | next =>
      obtain ⟨σ', H', J, q⟩ := hs
      exact ⟨.non, H', J.os, J.bare, J.base, J.hok, rfl, q⟩
    | brk =>
      obtain ⟨_, _, _, q⟩ := hs
      exact False.elim q
    | cont =>
      obtain ⟨_, _, _, q⟩ := hs
      exact False.elim q
  refine PySem.ks_wpAt_execs_cons ?_
  refine PySem.ks_wpAt_mono (super_init (X := ncx CX P w K mg base N ⟨name, qual, params, (.Expr (.Call (.Attribute (.Call (.Name "super" p0) [] [] p1) "__init__" p2) [e] [] p3) p4 :: rest), scope, [("__class__", cc)], cda⟩ fI A outer s H E) (σ := startF N vs [none]) (pins := []) T I hks (S.frk _ (by simp)) (S.par _ (List.mem_of_getElem? har)) rfl (kp _ _ (KX _ _ lk)) rfl hp rfl (by show List.lookup ("__class__" : Str) [(("__class__" : Str), cc)] = _; rw [List.lookup_cons, beq_self_eq_true]) hN0 hs0 ea he hq (by show (scope.kind == .module && _) = false; rw [S.kind]; rfl) rfl (hm _) (hse _)) (fun fl s' hfl => ?_) fun _ _ z => z
  obtain ⟨rfl, H1, J, q1⟩ := hfl
  exact wpAt_of_wpAny (wpAny_mono (ht.run [] s' (startF N vs [none]) H1 _ J q1) (fun fl s'' hs => fin hs) fun _ _ z => z)
end
end L2

set_option Elab.async false
set_option linter.all false
set_option maxRecDepth 100000
set_option maxHeartbeats 2000000
namespace L2
open PySem PySem.Spec PyProof.Rows NdefX
/-! ### an own exception with one number: `super().__init__(f"..{x!r}..")`, `self.x = x` -/
def spFault (C : Addr) (f : Str) : Sp := fun vs H Q _ => ∃ (a : Addr) (i : Int), vs = [.ref a, .int i] ∧ i.natAbs.log2 < 1920 ∧ H a = some (exo a C none) ∧ ∀ dx, H dx = none → dx ≠ a → Q .non (upd (upd H dx (exd dx [(f, .int i)])) a (exo a C (some dx)))
theorem int_str_len {i : Int} (h : i.natAbs.log2 < 1920) : (Str.ofString (toString i)).length ≤ 1921 := by
  have e := int_text_length_le (k := 1920) (by decide) h
  rw [PySem.ofString_length]
  exact e
section
variable {P : Program} {w : World} {K : PySem.W.Frag} {mg : Str → Option Value} {base : Heap} {k : Nat} {C cc cda fI : Addr}
variable {qual c c2 f : Str} {params : Arguments} {scope : Scope} {dV kV doc pm ct oc : Value} {an od : Option Addr} {osl : Array (Option Value)} {p0 p1 p2 p3 p4 q1 q2 q3 q4 q5 q6 q7 q8 q9 : Pos} {ar : Arg}
theorem fault_ok2
    (lk : K.lookup fI = some ⟨oc, od, .func (PySem.W.fnX "__init__" qual params [.Expr (.Call (.Attribute (.Call (.Name "super" p0) [] [] p1) "__init__" p2) [.JoinedStr [.Constant (.str c) 0 q1, .FormattedValue (.Name f q2) 114 none q3] q4] [] p3) p4, .Assign [.Attribute (.Name "self" q5) f q6] (.Name f q7) q8] scope [("__class__", cc)] dV kV doc pm an (.ref cda) ct), osl⟩)
    (hcd : PySem.W.codeIn K (.ref cda) qual = true) (S : NScope ["self", f, "__class__"] ["self", f] ["__class__"] scope) (T : FtC P K mg C cc cda) (hks : scope.names.lookup ("super" : Str) = some .globalImplicit) (hp : (params.posonlyargs ++ params.args).head? = some ar) (har : ar.arg = "self")
    (hno : PySem.W.findIn K (.ref C) f = some none) (hlc : c.length ≤ 1000) (hd : (f == ("__debug__" : Str)) = false) (hcd2 : (f == ("__classdict__" : Str)) = false)
    (hm : ∀ env : Env, ∃ pl, eval (.Call (.Attribute (.Call (.Name "super" p0) [] [] p1) "__init__" p2) [.JoinedStr [.Constant (.str c) 0 q1, .FormattedValue (.Name f q2) 114 none q3] q4] [] p3) env = (do
      let ov ← attributeBase (.Call (.Name "super" p0) [] [] p1) "__init__" env (eval (.Call (.Name "super" p0) [] [] p1) env)
      standAt p2.atName
      let (g, first) ← holding [ov] (getMethod ov "__init__" pl)
      callWith p3 g first (backTo p3 (starEach [.JoinedStr [.Constant (.str c) 0 q1, .FormattedValue (.Name f q2) 114 none q3] q4] env)) [])) :
    FnOk P w K mg base CX0 (k + 1) fI (PySem.W.fnX "__init__" qual params [.Expr (.Call (.Attribute (.Call (.Name "super" p0) [] [] p1) "__init__" p2) [.JoinedStr [.Constant (.str c) 0 q1, .FormattedValue (.Name f q2) 114 none q3] q4] [] p3) p4, .Assign [.Attribute (.Name "self" q5) f q6] (.Name f q7) q8] scope [("__class__", cc)] dV kV doc pm an (.ref cda) ct) ["self", f] (spFault C f) := by
  refine fnok_super lk hcd S T hks hp (by rw [har]; rfl) (fun vs H Q E h => ?_) (fun A outer s H vs Q E hr h => ?_) hm (fun _ => rfl)
  · obtain ⟨a, i, rfl, _⟩ := h
    rfl
  · obtain ⟨a, i, rfl, hi, ea, q⟩ := h
    have e1 : ("" : Str).length = 0 := rfl
    have z := int_str_len hi
    refine ⟨a, _, _, rfl, ea, pe_joined (PJ.cons pe_str (PJ.cons (pe_fmtR (pe_var (i := 1) rfl (.inl (S.par f (by simp))) hd hcd2)) PJ.nil)), pss_one (ps_ost (pe_var (i := 0) rfl (.inl (S.par "self" (by simp))) (by decide) (by decide)) (pe_var (i := 1) rfl (.inl (S.par f (by simp))) hd hcd2)), ?_⟩
    refine ⟨c, rfl, ?_, .int i, rfl, .inr ⟨i, rfl, hi, _, rfl, ?_, ea, .int i, rfl, .ref a, rfl, a, C, rfl, T.ox, hno, .inl ⟨ea, fun dx n1 n2 => q dx n1 n2⟩⟩⟩
    · rw [PySem.Str.length_append, sizeLine_eq]
      have : Str.empty.length = 0 := rfl
      omega
    · rw [PySem.Str.length_append, PySem.Str.length_append, sizeLine_eq]
      have : Str.empty.length = 0 := rfl
      omega
end
end L2

set_option Elab.async false
set_option linter.all false
set_option maxRecDepth 100000
set_option maxHeartbeats 2000000
namespace Kf
open PySem PySem.Spec PyProof.Rows L2 LamX NdefX
/-! ## raise -/
/-- an own error with a number, made and raised -/
structure FtMk (P : Program) (w : World) (K : PySem.W.Frag) (mg : Str → Option Value) (base : Heap) (k : Nat) (x : Str) (C : Addr) (f : Str) : Prop where
  ex : ∃ fI fd, OexC K C ∧ PySem.W.findIn K (.ref C) "__init__" = some (some (.ref fI)) ∧ PySem.W.typeIn K (.ref fI) = some (.type "function") ∧ mg x = some (.ref C) ∧ Binds K fd ["self", f] [] ∧ FnOk P w K mg base CX0 k fI fd ["self", f] (spFault C f)
/-- C(e): f -/
def tFault (C : Addr) (f : Str) (te : TE) : L2.St → Hp → XK → Prop := fun σ H Q => te σ H fun v H1 => ∃ i : Int, v = .int i ∧ i.natAbs.log2 < 1920 ∧ ∀ d, H1 d = none → Q (.ref C) (some d) (upd H1 d (.xd [(f, .int i)]))
theorem pmk_fault {X : Cx} {k j : Nat} {x f : Str} {C : Addr} {e : Expr} {te : TE} {p pos : Pos} (M : FtMk X.prog X.w X.K X.mg X.base k x C f) (hk : k + 1 ≤ j) (hr : Room j X.A) (hg : Gl X x) (he : PE X e te) (hm : ∀ (σ : L2.St) (H : Hp) (Q Q' : VK), (∀ v H', Q v H' → Q' v H') → te σ H Q → te σ H Q')
    (hdb : (x == ("__debug__" : Str)) = false := by decide) (hse : starEach (e :: []) X.env = (false, eval e X.env) :: starEach [] X.env := by rfl) : PMk X (.Call (.Name x p) [e] [] pos) (tFault C f te) := by
  obtain ⟨fI, fd, T, iC, tI, m, hb, F⟩ := M.ex
  intro pins s σ H Q I h
  refine pmk_oex (ta := tCons te tNil) (dvs := []) T iC tI F (hr.mono hk) hb .nil pass0 hg m (pa_cons he pa_nil hse) hdb hse rfl pins s σ H Q I ?_
  refine hm σ H _ _ (fun v H1 h1 => ?_) h
  obtain ⟨i, rfl, hi, q⟩ := h1
  refine ⟨by show 1 ≤ 1000; decide, fun a na => ⟨a, i, rfl, hi, upd_same, fun dx n1 n2 => ⟨rfl, dx, [(f, .int i)], upd_same, by rw [upd_ne n2]; exact upd_same, ?_, ?_⟩⟩⟩
  · rw [upd_ne n2] at n1
    exact n1
  · have nd : H1 dx = none := by
      rw [upd_ne n2] at n1
      exact n1
    have e2 : upd (L2.del (upd (upd (upd H1 a (exo a C none)) dx (exd dx [(f, .int i)])) a (exo a C (some dx))) a) dx (.xd [(f, .int i)]) = upd H1 dx (.xd [(f, .int i)]) := by
      funext b
      by_cases h1 : b = dx
      · subst h1
        rw [upd_same, upd_same]
      · rw [upd_ne h1, upd_ne h1]
        by_cases h2 : b = a
        · subst h2
          rw [L2.del_same, na]
        · rw [L2.del_ne h2, upd_ne h2, upd_ne h1, upd_ne h2]
    rw [e2]
    exact q dx nd
section
variable {X : Cx} {B : Bas} {W : WX} {a b c e o : Expr} {es : List Expr} {te : TV} {tx : TVX} {ts : TVs} {pos apos p : Pos} {C : Addr} {f m : Str}
/-- raise C(e), e a number -/
def sRaise (C : Addr) (f : Str) (te : TV) : TSD := fun D E => te E fun r E1 => match r with
  | .d (.int i) => i.natAbs.log2 < 1920 ∧ D.rs C [(f, .int i)] E1
  | _ => False
theorem liftE_mono : ∀ (σ : L2.St) (H : Hp) (Q Q' : VK), (∀ v H', Q v H' → Q' v H') → liftE B te σ H Q → liftE B te σ H Q' := fun σ H Q Q' m ⟨own, E, R, rep, ht, k⟩ => ⟨own, E, R, rep, ht, fun r E' own' v H' hr ev ra rep' => m v H' (k r E' own' v H' hr ev ra rep')⟩
theorem es_raise {k j : Nat} {x : Str} {pos' : Pos} (hc : X.calm = true) (tk : Takes X B.wx) (M : FtMk X.prog X.w X.K X.mg X.base k x C f) (hk : k + 1 ≤ j) (hr : Room j X.A) (hg : Gl X x) (he : PE X e (liftE B te))
    (hdb : (x == ("__debug__" : Str)) = false := by decide) (hse : starEach (e :: []) X.env = (false, eval e X.env) :: starEach [] X.env := by rfl) : PS X (.Raise (some (.Call (.Name x p) [e] [] pos)) none pos') (liftS B (sRaise C f te)) :=
  PS_mono (ps_raise hc tk (pmk_fault M hk hr hg he liftE_mono hdb hse)) fun D σ H hq => by
    obtain ⟨own, E, De, rep, ht, k1, k2, k3, k4, k5⟩ := hq
    refine ⟨own, E, _, rep, ht, fun r E1 own1 v H1 q1 ev1 ra rep1 => ?_⟩
    cases r with
    | d x =>
      cases x with
      | int i =>
        cases (show Dx B.K (hid own1 H1) v (.int i) from ra)
        refine ⟨i, rfl, q1.1, fun d nd => ?_⟩
        have st := (Stp.new (T := B.T) (o := .xd [(f, .int i)]) (hid_sub (own := own1) (H := H1)) nd).w rep1.wd.kp
        obtain ⟨own3, rep3, ev3, x3⟩ := ExcD.at (d := some d) (fs := [(f, .int i)]) rep1 st ⟨_, upd_same, .cons (.int i) .nil⟩
        exact k5 C _ own3 E1 σ (some d) _ q1.2 (ev1.trans ev3) x3 rep3
      | _ => exact q1.elim
    | _ => exact q1.elim
/-- an own error without a field of its own -/
structure FtN (K : PySem.W.Frag) (mg : Str → Option Value) (x : Str) (C : Addr) : Prop where
  ex : ∃ bmB B newId initId, ExcBaseFacts B newId initId bmB ∧ PySem.W.excIn K C bmB newId = true ∧ mg x = some (.ref C) ∧ PySem.W.keepIn K (.ref C) = true ∧ PySem.W.subIn K (.ref C) (.type "BaseException") = some true ∧ PySem.W.typeIn K (.ref C) = some (.type "type")
def sRaiseN (C : Addr) (ts : TVs) : TSD := fun D E => ts E fun rs E1 => rs.length ≤ 1000 ∧ D.rs C [] E1
theorem es_raiseN {x : Str} {pos' : Pos} (hc : X.calm = true) (tk : Takes X B.wx) (M : FtN X.K X.mg x C) (hg : Gl X x) (ha : PA X (e :: es) (liftA B ts)) (hdb : (x == ("__debug__" : Str)) = false := by decide)
    (he : starEach (e :: es) X.env = (false, eval e X.env) :: starEach es X.env := by rfl) (hpl : (backTo pos (starEach es X.env)).any (·.1) = false := by rfl) : PS X (.Raise (some (.Call (.Name x p) (e :: es) [] pos)) none pos') (liftS B (sRaiseN C ts)) := by
  obtain ⟨bmB, Bn, newId, initId, F, q, gC, kC, r1, r2⟩ := M.ex
  refine PS_mono (ps_raise hc tk (pmk_ownA F q gC kC (raises_own r1 r2) hg ha hdb he hpl)) fun D σ H hq => ?_
  obtain ⟨own, E, De, rep, ht, k1, k2, k3, k4, k5⟩ := hq
  refine ⟨own, E, _, rep, ht, fun rs E1 own1 vs H1 q1 ev1 rs1 rep1 => ⟨?_, k5 C [] own1 E1 σ none H1 q1.2 ev1 rfl rep1⟩⟩
  rw [pairLen rs1, sizeLine_eq]
  exact Nat.le_trans q1.1 (by omega)
end
end Kf

set_option Elab.async false
set_option linter.all false
set_option maxRecDepth 100000
set_option maxHeartbeats 2000000
namespace Kf
open PySem PySem.Spec PyProof.Rows L2 LamX NdefX
/-! ## C(..) that may raise -/
structure StpI (T : List NTab) (W : List Comp) (x : Addr) (S H S' H' : Hp) : Prop where
  sm : SmM T (fun a => muW W a ∨ a = x) H H'
  ss : ExtN S S'
  sub : ∀ a o, S' a = some o → H' a = some o
  sep : ∀ a, H a ≠ none → S a = none → S' a = none
  kp : ∀ c ∈ W, c.κ H'
/-- what an __init__ promises: the instance at x is its own to change -/
def spIni (T : List NTab) (K : KW) (C : Addr) (n : Nat) (tf : List Rv → (List (Str × PyData) → Prop) → (Addr → List (Str × PyData) → Prop) → Prop) : Sp := fun vs H Q E => ∃ x dx S args rs R Rx W, vs = .ref x :: args ∧ args.length = n ∧ H x = some (.ins C dx []) ∧ S x = none ∧ ¬ muW W x ∧ Sub S H ∧ TabsN T H ∧ Wf W S H ∧ Paired (RvS K W S) args rs ∧ tf rs R Rx ∧
  (∀ fs ws S' H', R fs → StpI T W x S H S' H' → H' x = some (.ins C dx ws) → DaF K S' ws fs → Q .non H') ∧ ∀ D gs d S' H', Rx D gs → StpI T W x S H S' H' → ExcD K S' d gs → E (.ref D) d H'
structure MkX (P : Program) (w : World) (K : PySem.W.Frag) (mg : Str → Option Value) (base : Heap) (k : Nat) (x : Str) (C : Addr) (ps : List Str) (sp : Sp) : Prop where
  ex : ∃ f fd, Mk K C f ∧ mg x = some (.ref C) ∧ Binds K fd ps [] ∧ FnOk P w K mg base (L2.CX P w) k f fd ps sp
/-- .. by keyword, in the order of the parameters -/
structure MkXK (P : Program) (w : World) (K : PySem.W.Frag) (mg : Str → Option Value) (base : Heap) (k : Nat) (x : Str) (C : Addr) (ks ps : List Str) (sp : Sp) : Prop where
  ex : ∃ f fd g, Mk K C f ∧ mg x = some (.ref C) ∧ KBn K fd ps 1 ks g (fun us zs => us ++ zs) ∧ FnOk P w K mg base (L2.CX P w) k f fd ps sp
def tMakeX (C : Addr) (sp : Sp) (W : WX) (t : TA) : TE := fun σ H Q => t σ H fun vs H1 => ∀ x dx, H1 x = none → H1 dx = none → dx ≠ x →
  sp (.ref x :: vs) (upd (upd H1 dx (.own x)) x (.ins C dx [])) (fun v H2 => v = .non ∧ Q (.ref x) H2) fun cls d H' => W cls d σ H'
section
variable {X : Cx} {B : Bas} {W : WX} {a b c e o : Expr} {es : List Expr} {kws : List Keyword} {te : TV} {tx : TVX} {ts : TVs} {pos apos p : Pos} {C : Addr} {f m : Str}
theorem pe_makeX {k j : Nat} {x : Str} {ps : List Str} {sp : Sp} {t : TA} (M : MkX X.prog X.w X.K X.mg X.base k x C ps sp) (tk : Takes X W) (hk : k + 1 ≤ j) (hr : Room j X.A) (hg : Gl X x) (ha : PA X (e :: es) t) (hdb : (x == ("__debug__" : Str)) = false := by decide)
    (he : starEach (e :: es) X.env = (false, eval e X.env) :: starEach es X.env := by rfl) (hpl : (backTo pos (starEach es X.env)).any (·.1) = false := by rfl) :
    PE X (.Call (.Name x p) (e :: es) [] pos) (tMakeX C sp W t) := by
  obtain ⟨f, fd, M, hm, hb, F⟩ := M.ex
  have hr := hr.mono hk
  refine ⟨fun pins s σ H Q I h => ?_⟩
  refine wpAny_Call_Name_kw (ld_glob I hg hm ?_ hdb)
  refine PySem.W.callWith_K (h₀ := X.base) I.ok.mod.kin M.kp (thn (ha.run pos pins s σ H _ I h) fun us s1 ⟨vs, H1, I1, r, q⟩ => ⟨I1.kIn, ?_⟩) he hpl
  have hq := q (s1.heap.objs.size + 1) s1.heap.objs.size (I1.hok.fresh (Nat.le_succ _)) (I1.hok.fresh (Nat.le_refl _)) (Nat.ne_of_lt (Nat.lt_succ_self _))
  have I2 := Inv.made (C := C) I1
  have r2 : Vals (V.ref (s1.heap.objs.size + 1) :: vs) (Value.ref (s1.heap.objs.size + 1) :: us) := .cons rfl r
  have hl : (Value.ref (s1.heap.objs.size + 1) :: us).length = ps.length := by
    have e := r2.length
    rw [F.len _ _ _ _ hq] at e
    exact e.symm
  have hb2 := hb _ (Value.ref (s1.heap.objs.size + 1) :: us) I2.kIn (by simpa using hl)
  rw [List.append_nil] at hb2
  refine wpAny_call (make_map (f := f) I1.kIn M.makes M.init (beq_iff_eq.mp M.fn) (codeAny_mono (F.run _ X.stack _ _ ⟨Value.ref (s1.heap.objs.size + 1) :: us, []⟩ (Value.ref (s1.heap.objs.size + 1) :: us) _ _ _ (hr.make C us [])
    (I2.env0.make C us []) hb2 r2 hq) fun r s' hq' => ?_))
  cases r with
  | error e => exact tk e s' (XE.of_call I2 (fun cls d H' h => h) hq')
  | ok fl =>
    cases fl with
    | ret u =>
      obtain ⟨v, H', I3, rv, ev, q3⟩ := I2.after hq'
      subst ev
      exact ⟨rv, ⟨V.ref (s1.heap.objs.size + 1), H', I3, rfl, q3⟩⟩
    | next => exact False.elim hq'
    | brk => exact False.elim hq'
    | cont => exact False.elim hq'
theorem pe_makeXK {k j : Nat} {x : Str} {ks ps : List Str} {sp : Sp} {t : TA} (M : MkXK X.prog X.w X.K X.mg X.base k x C ks ps sp) (tk : Takes X W) (hk : k + 1 ≤ j) (hr : Room j X.A) (hg : Gl X x) (hkw : PK X kws t)
    (hall : (backToKw pos (keywordEach kws X.env)).all (·.1.isSome) = true := by rfl) (hks : (backToKw pos (keywordEach kws X.env)).filterMap (·.1) = ks := by rfl) (hdb : (x == ("__debug__" : Str)) = false := by decide)
    (hpl : ((backTo pos (starEach [] X.env)).any (·.1) || (backToKw pos (keywordEach kws X.env)).any (·.1.isNone)) = false := by rfl) :
    PE X (.Call (.Name x p) [] kws pos) (tMakeX C (fun vs H Q E => vs.length = ks.length + 1 ∧ sp vs H Q E) W t) := by
  obtain ⟨f, fd, g, M, hm, hb, F⟩ := M.ex
  have hr := hr.mono hk
  refine ⟨fun pins s σ H Q I h => ?_⟩
  refine wpAny_Call_Name_kw (ld_glob I hg hm ?_ hdb)
  refine PySem.W.callWith_KW0 (h₀ := X.base) I.ok.mod.kin M.kp hall ?_ hpl
  refine thn (hkw.run pos pins s σ H _ I h) fun ws s1 ⟨zs, H1, I1, rz, q⟩ => ⟨I1.kIn, ?_⟩
  rw [hks]
  obtain ⟨hlen, hq⟩ := q (s1.heap.objs.size + 1) s1.heap.objs.size (I1.hok.fresh (Nat.le_succ _)) (I1.hok.fresh (Nat.le_refl _)) (Nat.ne_of_lt (Nat.lt_succ_self _))
  have I2 := Inv.made (C := C) I1
  have r1 : Vals [V.ref (s1.heap.objs.size + 1)] [Value.ref (s1.heap.objs.size + 1)] := .cons rfl .nil
  have r2 := hb.rel r1 rz
  have e2 : ws.length = ks.length := by
    rw [← rz.length]
    simpa using hlen
  refine wpAny_call (make_map (f := f) I1.kIn M.makes M.init (beq_iff_eq.mp M.fn) (codeAny_mono (F.run _ X.stack _ _ ⟨[Value.ref (s1.heap.objs.size + 1)], ks.zip ws⟩ (g [Value.ref (s1.heap.objs.size + 1)] ws) _ _ _ (hr.make C [] (ks.zip ws))
    (I2.env0.make C [] (ks.zip ws)) (hb.to _ [Value.ref (s1.heap.objs.size + 1)] ws I2.kIn rfl e2) r2 hq) fun r s' hq' => ?_))
  cases r with
  | error e => exact tk e s' (XE.of_call I2 (fun cls d H' h => h) hq')
  | ok fl =>
    cases fl with
    | ret u =>
      obtain ⟨v, H', I3, rv, ev, q3⟩ := I2.after hq'
      subst ev
      exact ⟨rv, ⟨V.ref (s1.heap.objs.size + 1), H', I3, rfl, q3⟩⟩
    | next => exact False.elim hq'
    | brk => exact False.elim hq'
    | cont => exact False.elim hq'
def dMake (C : Addr) (n : Nat) (tf : List Rv → (List (Str × PyData) → Prop) → (Addr → List (Str × PyData) → Prop) → Prop) (ts : TVs) : TVX := fun E R Rx => ts E fun rs E1 => rs.length = n ∧ tf rs (fun fs => R (.ob C fs) E1) fun D gs => Rx D gs E1
theorem makeE {n : Nat} {tf : List Rv → (List (Str × PyData) → Prop) → (Addr → List (Str × PyData) → Prop) → Prop} {σ : L2.St} {H : Hp} {Q : VK} (hq : liftX B (dMake C n tf ts) σ H Q) : tMakeX C (fun vs H Q E => vs.length = n + 1 ∧ spIni B.T B.K C n tf vs H Q E) B.wx (liftA B ts) σ H Q := by
  obtain ⟨own, E, R, Rx, rep, ht, k, kx⟩ := hq
  refine ⟨own, E, _, rep, ht, fun rs E1 own1 vs H1 q1 ev1 rs1 rep1 x dx nx ndx ne => ⟨by rw [List.length_cons, pairLen rs1, q1.1], ?_⟩⟩
  have keep : ∀ b o, H1 b = some o → upd (upd H1 dx (.own x)) x (.ins C dx []) b = some o := fun b o e => by
    rw [upd_ne (ne_of_none e nx), upd_ne (ne_of_none e ndx)]
    exact e
  have sx : hid own1 H1 x = none := sub_none hid_sub nx
  have mx : ¬ muW B.W x := fun z => (rep1.wf.hs x z).2 nx
  have wf := rep1.wf
  have mun : ∀ a, muW B.W a → H1 a ≠ none := fun a m => (wf.hs a m).2
  have wf2 : Wf B.W (hid own1 H1) (upd (upd H1 dx (.own x)) x (.ins C dx [])) := by
    refine ⟨fun a m => ⟨(wf.hs a m).1, fun z => ?_⟩, fun c hc => c.ist H1 _ (fun a o _ e _ => keep a o e) (wf.kp c hc), wf.dj, fun a o e hs => ?_⟩
    · obtain ⟨o, ho⟩ := Option.ne_none_iff_exists'.mp (mun a m)
      rw [keep a o ho] at z
      cases z
    · by_cases h1 : a = x
      · subst h1
        rw [upd_same] at e
        cases e
        trivial
      · rw [upd_ne h1] at e
        by_cases h2 : a = dx
        · subst h2
          rw [upd_same] at e
          cases e
          trivial
        · rw [upd_ne h2] at e
          exact wf.nt a o e hs
  have stw : ∀ {S' H'}, StpI B.T B.W x (hid own1 H1) (upd (upd H1 dx (.own x)) x (.ins C dx [])) S' H' → StpW B.T B.W (hid own1 H1) H1 S' H' := fun {S' H'} st => by
    refine ⟨⟨fun b o e nm nt => st.sm.kp b o (keep b o e) (fun z => z.elim nm fun z => by rw [z, nx] at e; cases e) nt, fun b e => ?_, fun t => st.sm.tb (t.ext keep)⟩, st.ss, st.sub, fun a h1 h2 => st.sep a (fun z => ?_) h2, st.kp⟩
    · have := st.sm.nn b e
      cases q : H1 b with
      | none => rfl
      | some o => rw [keep b o q] at this; cases this
    · obtain ⟨o, ho⟩ := Option.ne_none_iff_exists'.mp h1
      rw [keep a o ho] at z
      cases z
  refine ⟨x, dx, hid own1 H1, vs, rs, _, _, B.W, rfl, by rw [pairLen rs1]; exact q1.1, upd_same, sx, mx, fun a o e => keep a o (hid_sub a o e), rep1.tb.ext keep, wf2, rs1, q1.2, fun fs ws S' H' hr st hx df => ⟨rfl, ?_⟩, fun D gs d S' H' hr st xd => ?_⟩
  · have sn : S' x = none := st.sep x (by rw [upd_same]; nofun) sx
    have w := stw st
    have eS : ExtN S' (upd S' x (.ins C dx ws)) := fun b o e _ => by
      rw [upd_ne (ne_of_none e sn)]
      exact e
    have w2 : StpW B.T B.W (hid own1 H1) H1 (upd S' x (.ins C dx ws)) H' := ⟨w.sm, w.ss.trans eS, fun a o e => by
      by_cases z : a = x
      · subst z
        rw [upd_same] at e
        cases e
        exact hx
      · rw [upd_ne z] at e
        exact w.sub a o e, fun a h1 h2 => by
      rw [upd_ne (fun z => by subst z; exact h1 nx)]
      exact w.sep a h1 h2, w.kp⟩
    obtain ⟨own3, rep3, ev3, ra⟩ := rep1.resW (v := .ref x) (r := .ob C fs) w2 ⟨x, dx, ws, rfl, upd_same, df.sm eS⟩
    exact k (.ob C fs) E1 own3 (.ref x) H' hr (ev1.trans ev3) ra rep3
  · obtain ⟨own3, rep3, ev3, x3⟩ := ExcD.at rep1 (stw st) xd
    exact kx D gs E1 own3 d H' hr (ev1.trans ev3) x3 rep3
theorem ev_make {k j n : Nat} {x : Str} {ps : List Str} {tf : List Rv → (List (Str × PyData) → Prop) → (Addr → List (Str × PyData) → Prop) → Prop} (M : MkX X.prog X.w X.K X.mg X.base k x C ps (spIni B.T B.K C n tf)) (tk : Takes X B.wx) (hk : k + 1 ≤ j) (hr : Room j X.A) (hg : Gl X x) (ha : PA X (e :: es) (liftA B ts)) (hdb : (x == ("__debug__" : Str)) = false := by decide)
    (he : starEach (e :: es) X.env = (false, eval e X.env) :: starEach es X.env := by rfl) (hpl : (backTo pos (starEach es X.env)).any (·.1) = false := by rfl) :
    PE X (.Call (.Name x p) (e :: es) [] pos) (liftX B (dMake C n tf ts)) := PE_mono (pe_makeX M tk hk hr hg ha hdb he hpl) fun σ H Q hq => by
  obtain ⟨own, E, R, rep, ht, k⟩ := makeE hq
  exact ⟨own, E, R, rep, ht, fun rs E' own' vs H' hr ev pr rep' x dx h1 h2 h3 => (k rs E' own' vs H' hr ev pr rep' x dx h1 h2 h3).2⟩
theorem ev_makeK {k j n : Nat} {x : Str} {ks ps : List Str} {tf : List Rv → (List (Str × PyData) → Prop) → (Addr → List (Str × PyData) → Prop) → Prop} (M : MkXK X.prog X.w X.K X.mg X.base k x C ks ps (spIni B.T B.K C n tf)) (hn : ks.length = n) (tk : Takes X B.wx) (hk : k + 1 ≤ j) (hr : Room j X.A) (hg : Gl X x) (hkw : PK X kws (liftA B ts))
    (hall : (backToKw pos (keywordEach kws X.env)).all (·.1.isSome) = true := by rfl) (hks : (backToKw pos (keywordEach kws X.env)).filterMap (·.1) = ks := by rfl) (hdb : (x == ("__debug__" : Str)) = false := by decide)
    (hpl : ((backTo pos (starEach [] X.env)).any (·.1) || (backToKw pos (keywordEach kws X.env)).any (·.1.isNone)) = false := by rfl) :
    PE X (.Call (.Name x p) [] kws pos) (liftX B (dMake C n tf ts)) := PE_mono (pe_makeXK M tk hk hr hg hkw hall hks hdb hpl) fun σ H Q hq => by
  subst hn
  exact makeE hq
end
end Kf

set_option Elab.async false
set_option linter.all false
set_option maxRecDepth 100000
set_option maxHeartbeats 4000000
/-! ## an error that was caught: isinstance, its attributes -/
namespace PySem.W
open PySem PySem.Spec PySem.Calls PyProof.Rows
section
variable {prog : Program} {w : World} {A : Around} {E : Value → Shared → Prop} {s : Shared} {K : Frag} {x D : Addr} {ox : Obj}
theorem findObj_dataD {od : Option Obj} {C : Addr} {name : Str} {a g : Value} (hc : (clsIn K C).isSome = true) (ha : findIn K (.ref C) name = some (some a)) (hg : specialIn K a "__get__" = some (some g)) (ht : takesIn K a = some true) : findObj K C od name = some (.bind g a) := by
  obtain ⟨cd, hc⟩ := Option.isSome_iff_exists.mp hc
  unfold findObj
  rw [hc, Option.bind_some, ha, Option.bind_some]
  simp [hg, ht]
theorem kin_classED {od : Option Obj} {Q : Option Value → Shared → Prop} (hga : findIn K (.ref D) "__getattribute__" = some (some (.builtin "BaseException.__getattribute__"))) (hgt : findIn K (.ref D) "__getattr__" = some none) (hsub : subIn K (.ref D) (.type "BaseException") = some true)
    (hdct : hasDictIn K D = true) (ha : findIn K (.ref D) "__class__" = some (some (.builtin "object.__class__")))
    (hn : specialIn K (.builtin "object.__class__") "__get__" = some (some (.builtin "getset_descriptor.__get__"))) (htk : takesIn K (.builtin "object.__class__") = some true) (hm : mroIn K D (.type "object") = some true)
    (X : K.In s.heap) (I : InstAt s.heap x ox D od) (h : Q (some (.ref D)) { s with toks := s.toks + 1 }) : wpAny (model prog w) A (getAttr? (.ref x) "__class__") Q E s := by
  have hf : findObj K D od "__class__" = some (.bind (.builtin "getset_descriptor.__get__") (.builtin "object.__class__")) := findObj_dataD (by obtain ⟨cd, hc, _⟩ := any_some hdct; rw [hc]; rfl) ha hn htk
  obtain ⟨hp, g, d, t, os⟩ := s
  have L0 := I.type (M := model prog w)
  have L1 := looks_findIn (M := model prog w) X hga
  have L2 := looks_findIn (M := model prog w) X hgt
  have L3 := looks_find (M := model prog w) X I hf
  have sub : Looks (model prog w) hp (isInstance (.ref x) (.type "BaseException")) true := L0.andThen (looks_subIn X hsub)
  have hx0 : (false && onTheHeap (Value.builtin "BaseException.__getattribute__")) = false := rfl
  have hx2 : (Value.builtin "BaseException.__getattribute__" == Value.builtin "object.__getattribute__") = false := by decide +kernel
  have hx1 : (onTheHeap (Value.ref D) && Value.builtin "BaseException.__getattribute__" == Value.builtin "object.__getattribute__") = false := by rw [hx2]; rfl
  unfold getAttr? getAttrBy? getAttrBy
  refine wpAny_bind (wpAny_mkText (wpAny_bind (wpAny_attempt (wpAny_holding (wpAny_bind (L0.at (wpAny_bind (L1.at ?_))))))))
  show wpAny _ _ (if (onTheHeap (Value.ref D) && Value.builtin "BaseException.__getattribute__" == Value.builtin "object.__getattribute__") = true then _ else _) _ _ _
  rw [hx1, if_neg Bool.false_ne_true]
  unfold getAttrByItsOwn hookBefore
  refine wpAny_bind ?_
  rw [if_pos (show onTheHeap (Value.ref D) = true from rfl)]
  refine L2.at ?_
  refine wpAny_bind (wpAny_attempt (wpAny_holding ?_))
  unfold callGetattribute
  rw [hx0, if_neg Bool.false_ne_true]
  unfold boundAndCalled
  rw [PySem.F.excAttr_ValueError.ga.bind (.ref x)]
  refine wpAny_bind (wpAny_pure ?_)
  show wpAny _ _ (call (.builtin "BaseException.__getattribute__") [.ref x, .str "__class__" t]) _ _ _
  refine wpAny_call (codeAny_call_builtin PySem.F.excAttr_ValueError.ga.plain PySem.F.entry_bexc_ga ?_)
  refine @check_slot (model prog w) _ _ ⟨hp, g, d, t + 1, os⟩ "BaseException.__getattribute__" "BaseException" "__getattribute__" (.ref x) [.str "__class__" t] [] _ (by decide +kernel) (by decide +kernel) sub (PySem.F.args_bexc_ga (.ref x) (.str "__class__" t)) ?_
  unfold Builtin.«object.__getattribute__»
  refine wpAny_bind (wpAny_of_eq (a := ((Value.ref x : Value), [Value.str "__class__" t])) (by first | rfl | (simp only [slotArgs]; rfl)) ?_)
  refine wpAny_bind (wpAny_pure (wpAny_bind (L0.at (wpAny_bind (L3.at ?_)))))
  show wpAny _ _ (holding [Value.builtin "object.__class__"] (call (.builtin "getset_descriptor.__get__") [.builtin "object.__class__", .ref x, .ref D]) >>= ret) _ _ _
  refine wpAny_bind (wpAny_holding (wpAny_call (class_get (s := ⟨hp, g, d, t + 1, os⟩) (ox := ox) (od := od) X I hm ?_)))
  refine wpAny_pure ?_
  show wpAny _ _ (handedOut (.ref D)) _ _ _
  rw [handedOut_of (v := .ref D) rfl]
  first
    | exact wpAny_pure (wpAny_pure h)
    | exact wpAny_pure h
    | exact wpAny_pure (wpAny_bind (wpAny_pure (wpAny_pure h)))
theorem kitx_excD {od : Option Obj} (hga : findIn K (.ref D) "__getattribute__" = some (some (.builtin "BaseException.__getattribute__"))) (hgt : findIn K (.ref D) "__getattr__" = some none) (hsub : subIn K (.ref D) (.type "BaseException") = some true) (hdct : hasDictIn K D = true) (ha : findIn K (.ref D) "__class__" = some (some (.builtin "object.__class__")))
    (hn : specialIn K (.builtin "object.__class__") "__get__" = some (some (.builtin "getset_descriptor.__get__"))) (htk : takesIn K (.builtin "object.__class__") = some true) (hm : mroIn K D (.type "object") = some true) :
    KitX K (.ref x) (.ref D) (fun h => InstAt h x ox D od) where
  ty := fun _ _ _ I => I.type
  it := fun _ _ X _ => by
    obtain ⟨cdD, hcD, _⟩ := any_some hdct
    unfold clsIn at hcD
    split at hcD
    · rename_i c' d' cd' sl' ho
      intro A' Q' E' s' k q
      unfold isType loadHead
      exact wpAny_bind (wpAny_loadPart (k _ _ (X _ _ ho)) (wpAny_pure q))
    · cases hcD
  ne := fun h tp dd its n sl X htp => by
    obtain ⟨cdD, hcD, _⟩ := any_some hdct
    refine Bool.eq_false_iff.mpr fun q => ?_
    have e : D = tp := Value.ref.inj (beq_iff_eq.mp q)
    subst e
    unfold clsIn at hcD
    split at hcD
    · rename_i c' d' cd' sl' ho
      have z := (X _ _ ho).symm.trans htp
      cases z
    · cases hcD
  ca := fun X I k => kin_classED hga hgt hsub hdct ha hn htk hm X I k
end
end PySem.W
namespace Kf
open PySem PySem.Spec PyProof.Rows L2 LamX NdefX
/-- an error that was caught, with its attributes -/
def XA (K : KW) (C : Addr) (fs : List (Str × PyData)) : V → Hp → Prop := fun v S => ∃ a d, v = .ref a ∧ S a = some (ExK a (.ref C) d) ∧ ExcD K S d fs
theorem exK_ne {a : Addr} {c : Value} {d : Option Addr} : ∀ ps, ExK a c d ≠ .tbl ps := fun ps z => by
  have z' : HO.ext _ = HO.tbl ps := z
  cases z'
theorem XA.sm {K : KW} {C : Addr} {fs : List (Str × PyData)} {v : V} {S S' : Hp} (s : ExtN S S') (h : XA K C fs v S) : XA K C fs v S' := by
  obtain ⟨a, d, h1, h2, h3⟩ := h
  exact ⟨a, d, h1, exl s exK_ne h2, h3.sm s⟩
theorem XA.rv {K : KW} {W : List Comp} {C : Addr} {fs : List (Str × PyData)} {v : V} {S : Hp} (h : XA K C fs v S) : RvS K W S v (.a (XA K C fs)) := fun _ s => h.sm s
section
variable {X : Cx} {B : Bas} {te : TV} {tA : TE} {e : Expr} {es : List Expr} {pos : Pos} {f : Str}
/-- e.f of a caught error -/
def tXk (K : PySem.W.Frag) (f : Str) (te : TE) : TE := fun σ H Q => te σ H fun x H1 => ∃ a C dd fs v, x = .ref a ∧ H1 a = some (ExK a (.ref C) (some dd)) ∧ XfC K C ∧ PySem.W.findIn K (.ref C) f = some none ∧ H1 dd = some (.xd fs) ∧ fs.lookup f = some v ∧ Q v H1
theorem pe_xk (he : PE X e tA) (hb : attributeBase e f X.env (eval e X.env) = eval e X.env := by rfl) : PE X (.Attribute e f pos) (tXk X.K f tA) := by
  refine ⟨fun pins s σ H Q I h => ?_⟩
  refine attr_of hb (thn (he.run pins s σ H _ I h) fun u s1 hh => ?_)
  obtain ⟨x, H1, I1, rx, a, C, dd, fs, v, ex, eo, T, hno, ea, l, q⟩ := hh
  subst ex
  obtain rfl : u = Value.ref a := rx
  obtain ⟨⟨oe, vs, ha, hz, hd⟩, _, _⟩ := (show ObjOk X.prog X.w H1 s1.heap a (ExK a (.ref C) (some dd)) from I1.hok a _ eo)
  have hx : ObjOk X.prog X.w H1 s1.heap dd (.xd fs) := I1.hok dd _ ea
  obtain ⟨mA, hns, hr⟩ := hx
  obtain ⟨od, ho, hl⟩ := lookIn_ns hns
  obtain ⟨u, hu, ru⟩ := RelO.some_of (v := v) (o := mA f) (by rw [← l]; exact hr f)
  have J : PySem.W.InstAt s1.heap a oe C (some od) := ⟨ha, hz.1, by unfold PySem.W.notCls; rw [hd] <;> rfl, by rw [hz.2]; exact ho⟩
  exact HandSPX.exc_get I1.kIn J T.ga T.gg T.exC (PySem.W.findObj_own T.hdC hno rfl (by rw [hl, hu])) (handed_of ru) ⟨v, H1, I1.tok _, ru, q⟩
def dXf (K : KW) (cs : List Addr) (f : Str) (te : TV) : TV := fun E R => te E fun r E1 => match r with
  | .a φ => ∃ C fs, φ = XA K C fs ∧ C ∈ cs ∧ match fs.lookup f with
    | some d => R (.d d) E1
    | none => False
  | _ => False
theorem ev_xf {cs : List Addr} (hK : X.K = B.K.K) (hcs : ∀ C ∈ cs, XfC X.K C ∧ PySem.W.findIn X.K (.ref C) f = some none) (he : PE X e (liftE B te)) (hb : attributeBase e f X.env (eval e X.env) = eval e X.env := by rfl) : PE X (.Attribute e f pos) (liftE B (dXf B.K cs f te)) := PE_mono (pe_xk he hb) fun σ H Q hq => by
  obtain ⟨own, E, R, rep, ht, k⟩ := hq
  refine ⟨own, E, _, rep, ht, fun r E1 own1 v H1 q1 ev1 ra rep1 => ?_⟩
  cases r with
  | a φ =>
    obtain ⟨C, fs, rfl, hc, q⟩ := q1
    obtain ⟨a, d, rfl, h2, h3⟩ := (show RvS B.K B.W (hid own1 H1) v (.a (XA B.K C fs)) from ra) _ (ExtN.refl _)
    cases e1 : fs.lookup f with
    | none => rw [e1] at q; exact q.elim
    | some y =>
      rw [e1] at q
      cases d with
      | none =>
        have h3 : fs = [] := h3
        subst h3
        cases e1
      | some dd =>
        obtain ⟨vs, h4, h5⟩ := h3
        obtain ⟨u, h6, h7⟩ := h5.get e1
        exact ⟨a, C, dd, vs, u, rfl, (hid_some h2).2, (hcs C hc).1, (hcs C hc).2, (hid_some h4).2, h6, k (.d y) E1 own1 u H1 q ev1 h7 rep1⟩
  | _ => exact q1.elim
/-- isinstance(e, c), e a caught error -/
def rIsX (K : PySem.W.Frag) : List V → Hp → VK → Prop := fun xs H Q => ∃ (a D : Addr) (d : Option Addr) (c : V) (cv : Value) (b : Bool), xs = [.ref a, c] ∧ H a = some (ExK a (.ref D) d) ∧ (∀ dd, d = some dd → ∃ vs, H dd = some (.xd vs)) ∧ ExcC K D ∧ (∀ u, RelV c u → u = cv) ∧ PySem.W.kitOne K (.ref D) cv = some b ∧ Q (.bl b) H
theorem call_isX : CallR X (.builtin "isinstance") (rIsX X.K) := by
  intro pins s σ H xs us Q I r h
  obtain ⟨a, D, d, c, cv, b, rfl, eo, hd, C, hcv, e, q⟩ := h
  cases r with
  | cons rx rr =>
    cases rr with
    | cons rt rr =>
      cases rr
      cases rx
      have ec := hcv _ rt
      subst ec
      obtain ⟨⟨oe, vs, ha, hz, hv⟩, _, _⟩ := (show ObjOk X.prog X.w H s.heap a (ExK a (.ref D) d) from I.hok a _ eo)
      obtain ⟨od, J⟩ : ∃ od, PySem.W.InstAt s.heap a oe D od := by
        cases d with
        | none => exact ⟨none, ha, hz.1, by unfold PySem.W.notCls; rw [hv] <;> rfl, by rw [hz.2]; trivial⟩
        | some dd =>
          obtain ⟨fs, hf⟩ := hd dd rfl
          obtain ⟨mA, hns, _⟩ := (show ObjOk X.prog X.w H s.heap dd (.xd fs) from I.hok dd _ hf)
          obtain ⟨od, ho, _⟩ := lookIn_ns hns
          exact ⟨some od, ha, hz.1, by unfold PySem.W.notCls; rw [hv] <;> rfl, by rw [hz.2]; exact ho⟩
      exact PySem.W.kia_one (PySem.W.kitx_excD C.hg C.hk C.hs C.hd C.ha C.hn C.ht C.hm) I.kIn J e (fun z => nomatch z) fun tk => ⟨.bl b, H, I.kept (t' := tk) fun _ _ z => z, rfl, q⟩
/-- .. the classes asked about: ok D b: an error of the class D is one (b) -/
def dIsX (K : KW) (ok : Addr → Bool → Prop) (te : TV) : TV := fun E R => te E fun r E1 => match r with
  | .a φ => ∃ C fs b, φ = XA K C fs ∧ ok C b ∧ R (.d (.bool b)) E1
  | _ => False
theorem ev_isX {x : Str} {C2 : Addr} {p p2 : Pos} {ok : Addr → Bool → Prop} (hK : X.K = B.K.K) (hm : X.mg "isinstance" = none) (hgl : Gl X "isinstance") (hT : PE X (.Name x p2) (tC (.ref C2))) (hok : ∀ C b, ok C b → ExcC X.K C ∧ PySem.W.kitOne X.K (.ref C) (.ref C2) = some b) (he : PE X e (liftE B te))
    (hs : starEach (e :: [.Name x p2]) X.env = (false, eval e X.env) :: starEach [.Name x p2] X.env := by rfl) (hs2 : starEach (.Name x p2 :: []) X.env = (false, eval (.Name x p2) X.env) :: starEach [] X.env := by rfl) (hpl : (backTo pos (starEach [.Name x p2] X.env)).any (·.1) = false := by rfl) : PE X (.Call (.Name "isinstance" p) [e, .Name x p2] [] pos) (liftE B (dIsX B.K ok te)) :=
  PE_mono (pe_callB call_isX hgl hm (by decide +kernel) (pa_cons he (pa_cons hT pa_nil hs2) hs) (he := hs) (hpl := hpl)) fun σ H Q hq => by
    obtain ⟨own, E, R, rep, ht, k⟩ := hq
    refine ⟨own, E, _, rep, ht, fun r E1 own1 v H1 q1 ev1 ra rep1 => ?_⟩
    cases r with
    | a φ =>
      obtain ⟨C, fs, b, rfl, hc, q⟩ := q1
      obtain ⟨a, d, rfl, h2, h3⟩ := (show RvS B.K B.W (hid own1 H1) v (.a (XA B.K C fs)) from ra) _ (ExtN.refl _)
      refine ⟨a, C, d, .ref C2, .ref C2, b, rfl, (hid_some h2).2, fun dd e => ?_, (hok C b hc).1, fun u ru => ru, (hok C b hc).2, k (.d (.bool b)) E1 own1 (.bl b) H1 q ev1 (.bl b) rep1⟩
      subst e
      obtain ⟨vs, h4, _⟩ := h3
      exact ⟨vs, (hid_some h4).2⟩
    | _ => exact q1.elim
end
end Kf

set_option Elab.async false
set_option linter.all false
set_option maxRecDepth 100000
set_option maxHeartbeats 2000000
namespace Kf
open PySem PySem.Spec PyProof.Rows L2 LamX NdefX
/-! ## try: .. except x as n: m = n -/
section
variable {B : Bas} {own : Owns} {σ : L2.St} {H : Hp} {E : EnvD}
theorem Rep.unset (R : Rep B own σ H E) (i : Nat) (v : Option V) : Rep B own (σ.set i v) H (E.set i none) := by
  refine ⟨by simp [R.len], R.al, R.bs, R.ss, R.tb, R.fr, R.nw, R.wd, fun j u e => ?_, fun j a m x e => ?_⟩
  · rcases set_at e with ⟨rfl, e2⟩ | ⟨ne, e2⟩
    · cases e2
    · obtain ⟨v', h1, h2⟩ := R.sl j u e2
      exact ⟨v', by rw [List.getElem?_set_ne (Ne.symm ne)]; exact h1, h2⟩
  · rcases set_at e with ⟨rfl, e2⟩ | ⟨ne, e2⟩
    · cases e2
    · rw [List.getElem?_set_ne (Ne.symm ne)]; exact R.pin j a m x e2
theorem Rep.putA (R : Rep B own σ H E) {i : Nat} {v : V} {φ : V → Hp → Prop} (h : RvS B.K B.W (hid own H) v (.a φ)) (hi : i < E.length) : Rep B own (σ.set i (some v)) H (E.set i (some (.a φ))) := by
  have hσ : i < σ.length := by rw [R.len]; exact hi
  refine ⟨by simp [R.len], R.al, R.bs, R.ss, R.tb, R.fr, R.nw, R.wd, fun j u e => ?_, fun j a m x e => ?_⟩
  · rcases set_at e with ⟨rfl, e2⟩ | ⟨ne, e2⟩
    · cases e2
      exact ⟨v, by rw [List.getElem?_set_self hσ], h⟩
    · obtain ⟨v', h1, h2⟩ := R.sl j u e2
      exact ⟨v', by rw [List.getElem?_set_ne (Ne.symm ne)]; exact h1, h2⟩
  · rcases set_at e with ⟨rfl, e2⟩ | ⟨ne, e2⟩
    · cases e2
    · rw [List.getElem?_set_ne (Ne.symm ne)]; exact R.pin j a m x e2
/-- a caught error is kept -/
theorem Rep.keepX (R : Rep B own σ H E) {C : Addr} {d : Option Addr} {fs : List (Str × PyData)} (x : ExcD B.K (hid own H) d fs) {a : Addr} (na : H a = none) : ∃ own', Rep B own' σ (upd H a (ExK a (.ref C) d)) E ∧ Evo own H own' (upd H a (ExK a (.ref C) d)) ∧ RvS B.K B.W (hid own' (upd H a (ExK a (.ref C) d))) (.ref a) (.a (XA B.K C fs)) := by
  have st := (Stp.new (T := B.T) (o := ExK a (.ref C) d) (hid_sub (own := own) (H := H)) na).w R.wd.kp
  obtain ⟨own4, rep4, ev4, ra⟩ := R.resW (v := .ref a) (r := .a (XA B.K C fs)) st (XA.rv (W := B.W) ⟨a, d, rfl, upd_same, x.sm st.ss⟩)
  exact ⟨own4, rep4, ev4, ra⟩
end
section
variable {X : Cx} {B : Bas} {x n m : Str} {c : Value} {i j : Nat} {body : List Stmt} {np p1 p2 p3 pos pos' : Pos} {tb : TSD}
def sTryKeep (K : KW) (ok : Addr → Prop) (i j : Nat) (tb : TSD) : TSD := fun D E => tb { D with rs := fun C fs E1 => (ok C ∧ j < E1.length) ∧ D.nx (((E1.set i none).set j (some (.a (XA K C fs)))).set i none) } E
theorem es_try_keep {ok : Addr → Prop} (hs : X.stack = X.env :: X.outer) (hf : X.env.frame = some X.env.locals) (hN : X.N.Nodup) (hi : X.N[i]? = some n) (hj : X.N[j]? = some m) (hln : X.env.kindOf n = some .local) (hlm : X.env.kindOf m = some .local) (hc : Names X x c) (hx : X.ex = [])
    (hok : ∀ C, ok C → PySem.W.exmOne X.K (.ref C) c = some true)
    (hb : ∀ (W : WX) (pn : List (Addr × Obj)) (xe : Value → Shared → Prop), Takes (X.tr pn xe) W → PassesOwn (model X.prog X.w) X.A X.env xe → PSs (X.tr pn xe) body (liftS { B with wx := W } tb))
    (d1 : (n == ("__debug__" : Str)) = false := by decide) (d2 : (n == ("__classdict__" : Str)) = false := by decide) :
    PS X (.Try body [.ExceptHandler (some (.Name x np)) (some n) [.Assign [.Name m p1] (.Name n p2) p3] pos'] [] [] pos) (liftS B (sTryKeep B.K ok i j tb)) :=
  PS_mono (ps_try_keep (tb := fun W => liftS { B with wx := W } tb) hs hf hN hi hj hln hlm hc hx d1 d2 hb) fun D σ H hq => by
    obtain ⟨own, E, De, rep, ht, k1, k2, k3, k4, k5⟩ := hq
    refine ⟨own, E, _, rep.wx _, ht, fun own' E' σ' H' q ev rep' => k1 own' E' σ' H' q ev rep'.unwx, fun r own' E' σ' v H' q ra rep' => k2 r own' E' σ' v H' q ra rep'.unwx, fun own' E' σ' H' q ev rep' => k3 own' E' σ' H' q ev rep'.unwx, fun own' E' σ' H' q ev rep' => k4 own' E' σ' H' q ev rep'.unwx, fun C fs own' E' σ' d H' q ev xd rep' => ⟨hok C q.1.1, fun a na => ?_⟩⟩
    have R := rep'.unwx
    obtain ⟨own2, R2, ev2, ra⟩ := R.keepX (C := C) xd na
    have R3 := R2.unset i (some (.ref a))
    have R4 := R3.putA (i := j) ra (by simpa using q.1.2)
    exact k1 own2 _ _ _ q.2 (ev.trans ev2) (R4.unset i none)
end
end Kf

set_option Elab.async false
set_option linter.all false
set_option maxRecDepth 100000
set_option maxHeartbeats 2000000
namespace Kf
open PySem PySem.Spec PyProof.Rows L2 LamX NdefX
/-! ## a def that calls what it is handed and keeps what that raises -/
/-- what comes behind the try, by its reading: the names w, found, error have values -/
def Aft (T : List NTab) (K : KW) (n : Nat) (t : TSD) (vs : List V) (H : Hp) (Q : VK) : Prop := ∃ ios, (∀ i ∈ ios, i = 1) ∧ spM T K 3 ios (defM n ios t) vs H Q E0
def keepE (T : List NTab) (K : KW) (c : Value) (n : Nat) (t : TSD) (Q : VK) : XK := fun cls d H' => PySem.W.exmOne K.K cls c = some true ∧ ∀ a, H' a = none → ∀ f : Addr, Aft T K n t [.ref f, .non, .ref a] (upd H' a (ExK a cls d)) Q
def TTc (T : List NTab) (K : KW) (c : Value) (n : Nat) (t : TSD) : (XK → Hp → VK → Prop) → Hp → VK → Prop := fun tl H Q => ∀ H2, Sm T H H2 → ∀ Q' : VK, (∀ v H', (∀ f : Addr, Aft T K n t [.ref f, v, .non] H' Q) → Q' v H') → tl (keepE T K c n t Q) H2 Q'
section
variable {X : Cx} {x q : Str} {sg : Scope} {g : Addr} {cdg : Value} {T : List NTab} {t : TSD} {pre : Stmt} {rest : List Stmt} {w fo er ca xc : Str} {c : Value} {np p1 p2 p3 p4 p5 p6 p7 p8 p9 p10 : Pos}
theorem told_gives (nd : ([w, fo, er, ca] : List Str).Nodup) (hfo : sg.names.lookup fo = some .local) (her : sg.names.lookup er = some .local) (hca : sg.names.lookup ca = some .local)
    (hc : ∀ s H, Names (cxOf C8.CX0 X.prog X.w X.K X.mg X.base [w, fo, er, ca] x sg g cdg X.A X.stack s H C8.E0).nox xc c)
    (hpre : ∀ s H, ∃ tp, PS (cxOf C8.CX0 X.prog X.w X.K X.mg X.base [w, fo, er, ca] x sg g cdg X.A X.stack s H C8.E0).nox pre tp ∧ ∀ (D : Ends) (f : Addr) (H' : Hp), (∀ H2, Sm T H' H2 → D.nx [some (.ref f), some .non, some .non, none] H2) → tp D [some (.ref f), none, none, none] H')
    (hrest : ∀ s H (B : Bas), B.K = X.kw → B.T = T → (∀ p ∈ B.gv, p.1 = 1) → PSs (cxOf C8.CX0 X.prog X.w X.K X.mg X.base [w, fo, er, ca] x sg g cdg X.A X.stack s H C8.E0).nox rest (liftS B t))
    (d1 : (ca == ("__debug__" : Str)) = false := by decide) (d2 : (ca == ("__classdict__" : Str)) = false := by decide) :
    GivesS X [w, fo, er, ca] x sg g cdg (pre :: .Try [.Assign [.Name fo p1] (.Call (.Name w p2) [] [] p3) p4] [.ExceptHandler (some (.Name xc np)) (some ca) [.Assign [.Name er p5] (.Name ca p6) p7] p8] [] [] p9 :: rest) w q (TTc T X.kw c 4 t) := by
  intro f c' s H Q tl act hco h
  obtain ⟨tp, hp, tpq⟩ := hpre s H
  obtain ⟨X2, eX⟩ : ∃ X2 : Cx, X2 = (cxOf C8.CX0 X.prog X.w X.K X.mg X.base [w, fo, er, ca] x sg g cdg X.A X.stack s H C8.E0).nox := ⟨_, rfl⟩
  have R : PSs (cxOf C8.CX0 X.prog X.w X.K X.mg X.base [w, fo, er, ca] x sg g cdg X.A X.stack s H C8.E0).nox rest (fun D σ H' => ∃ B : Bas, (B.K = X.kw ∧ B.T = T ∧ ∀ p ∈ B.gv, p.1 = 1) ∧ liftS B t D σ H') :=
    ⟨fun pins s' σ H' D I ⟨B, ⟨b1, b2, b3⟩, hq⟩ => (hrest s H B b1 b2 b3).run pins s' σ H' D I hq⟩
  refine ⟨_, pss_cons hp (pss_cons (ps_try_keep (X := (cxOf C8.CX0 X.prog X.w X.K X.mg X.base [w, fo, er, ca] x sg g cdg X.A X.stack s H C8.E0).nox) (i := 3) (j := 2) (c := c)
      (tb := fun W D σ H' => ∃ EE : XK, (∀ cls d H2, EE cls d H2 → W cls d σ H2) ∧ σ[0]? = some (some (.ref f)) ∧ H' c' = some (CodeO c' q) ∧ tl EE H' fun v H2 => gName 1 v σ H2 D.nx)
      rfl rfl nd rfl rfl hca her (hc s H) rfl d1 d2 (fun W pn xe tk ps => ?_)) R), ?_⟩
  · refine ⟨fun pins s' σ H' D I h' => ?_⟩
    obtain ⟨EE, hW, h1, h2, h3⟩ := h'
    have hp := act (fun cls d σ' H2 => σ' = σ ∧ EE cls d H2) pn xe p2 p3 (Takes.imp tk fun cls d σ' H2 z => by
      obtain ⟨rfl, z⟩ := z
      exact hW cls d H2 z)
    have hq := pss_one (ps_set (i := 1) (x := fo) (pos := p4) (pos' := p1) nd rfl (.inl hfo) hp rfl (.inr hfo))
    refine hq.run pins s' σ H' D I ⟨h1, h2, ?_⟩
    have e : (fun (cls : Value) (d : Option Addr) (H2 : Hp) => σ = σ ∧ EE cls d H2) = EE := by
      funext cls d H2
      exact propext ⟨fun z => z.2, fun z => ⟨rfl, z⟩⟩
    rw [e]
    exact h3
  · have after : ∀ {v e : V} {H' : Hp}, Aft T X.kw 4 t [.ref f, v, e] H' Q → ∃ B : Bas, (B.K = X.kw ∧ B.T = T ∧ ∀ p ∈ B.gv, p.1 = 1) ∧ liftS B t { nx := fun _ H' => Q .non H', rt := Q } [some (.ref f), some v, some e, none] H' := fun {v e H'} ⟨ios, hio, sp⟩ => by
      obtain ⟨B, b1, b2, b3, hq⟩ := enterM (N := [w, fo, er, ca]) (ps := [w, fo, er]) (by show 3 ≤ 4; decide) sp
      exact ⟨B, ⟨b1, b2, fun p hp => hio _ (by rw [← b3]; exact List.mem_map.mpr ⟨p, hp, rfl⟩)⟩, hq⟩
    refine tpq _ f H fun H2 sm => ⟨keepE T X.kw c 4 t Q, fun cls d H2 z => ⟨z.1, fun a na => after (z.2 a na f)⟩, rfl, sm.kp _ _ hco codeO_ne, h H2 sm _ fun v H' z => after (z f)⟩
end
end Kf

set_option Elab.async false
set_option linter.all false
set_option maxRecDepth 100000
set_option maxHeartbeats 2000000
namespace Kf
open PySem PySem.Spec PyProof.Rows L2 LamX NdefX
/-! ## f(lambda: ..), f a def that catches, by the readings of both -/
def anyR : Rv := .a fun _ _ => True
def aft (n : Nat) (t : TSD) (r e : Rv) (R : Rv → Prop) : Prop := match r with
  | .o y => defM n [1] t [anyR, .o y, e] fun r' os => os.length = 1 ∧ R r'
  | r => defM n [] t [anyR, r, e] fun r' _ => R r'
def dTold (K : KW) (ok : Addr → Prop) (n : Nat) (t : TSD) (tx : TVX) : TV := fun E R => tx E (fun r E1 => aft n t r (.d .none) fun r' => R r' E1) fun C fs E1 => ok C ∧ aft n t (.d .none) (.a (XA K C fs)) fun r' => R r' E1
section
variable {B : Bas} {own : Owns} {σ : L2.St} {H : Hp} {E : EnvD}
theorem argsR3 {K : KW} {W : List Comp} {S : Hp} {gv : GV} {v1 v2 v3 : V} {r1 r2 r3 : Rv} (h1 : argR K W S H gv 0 v1 r1) (h2 : argR K W S H gv 1 v2 r2) (h3 : argR K W S H gv 2 v3 r3) : argsR K W S H gv [v1, v2, v3] [r1, r2, r3] := ⟨rfl, fun i r e => by
  match i, e with
  | 0, e => cases e; exact ⟨v1, rfl, h1⟩
  | 1, e => cases e; exact ⟨v2, rfl, h2⟩
  | 2, e => cases e; exact ⟨v3, rfl, h3⟩
  | i + 3, e => simp at e⟩
theorem aft_ok (rep : Rep B own σ H E) {n : Nat} {t : TSD} {v v3 : V} {r r3 : Rv} {f : Addr} {R : Rv → Prop} {Q : VK} (ra : RvAt B.K B.W own H .tmp v r) (h3 : RvS B.K B.W (hid own H) v3 r3) (no3 : ∀ y, r3 ≠ .o y) (hq : aft n t r r3 R) (k : ∀ r' own' v' H', R r' → Evo own H own' H' → RvAt B.K B.W own' H' .tmp v' r' → Rep B own' σ H' E → Q v' H') : Aft B.T B.K n t [.ref f, v, v3] H Q := by
  have a3 : ∀ gv, argR B.K B.W (hid own H) H gv 2 v3 r3 := fun gv => by
    cases r3 with
    | o y => exact absurd rfl (no3 y)
    | _ => exact h3
  have a1 : ∀ gv, argR B.K B.W (hid own H) H gv 0 (.ref f) anyR := fun gv => fun _ _ => trivial
  have plain : ∀ (hr : argR B.K B.W (hid own H) H [] 1 v r), defM n [] t [anyR, r, r3] (fun r' _ => R r') → Aft B.T B.K n t [.ref f, v, v3] H Q := fun hr hq => by
    refine ⟨[], by simp, hid own H, [anyR, r, r3], _, B.W, [], rfl, hid_sub, rep.tb, rep.wf, rfl, .nil, argsR3 (a1 _) hr (a3 _), hq, fun r' os v' S' H' hk st rn _ => ?_⟩
    have ng : ∀ a, ¬ gvA [] a := fun a ⟨i, m⟩ => by cases m
    have st' : StpW B.T B.W (hid own H) H S' H' := ⟨st.sm.up fun a m => m.elim id fun z => (ng a z).elim, st.ss, st.sub, fun a h1 h2 => st.sep a h1 h2 (ng a), st.kp⟩
    have rn' : RvN B.K B.W H S' H' v' r' := by
      cases r' with
      | o y =>
        obtain ⟨p, e1, e2, e3, e4, _⟩ := rn
        exact ⟨p, e1, e2.resolve_right (ng p), e3, e4⟩
      | _ => exact rn
    obtain ⟨own3, rep3, ev3, ra3⟩ := rep.resW st' rn'
    exact k r' own3 v' H' hk ev3 ra3 rep3
  cases r with
  | o y =>
    obtain ⟨p, rfl, w, q⟩ := ra
    have hq : defM n [1] t [anyR, .o y, r3] (fun r' os => os.length = 1 ∧ R r') := hq
    refine ⟨[1], by simp, hid own H, [anyR, .o y, r3], _, B.W, [(1, p)], rfl, hid_sub, rep.tb, rep.wf, rfl, ⟨fun p' hp => ?_, by simp, by simp⟩, argsR3 (a1 _) ⟨p, rfl, by simp, q⟩ (a3 _), hq, fun r' os v' S' H' hk st rn oo => ?_⟩
    · rw [List.mem_singleton.mp hp]
      exact ⟨hid_own w, (fun m => by rw [rep.wd.tg p m] at w; cases w), q.there⟩
    · obtain ⟨own3, rep3, ev3, ra3⟩ := rep.resM (E' := E) w nofun nofun st rn oo rfl fun i r' er => .inl ⟨er, fun x _ z => by cases z⟩
      exact k r' own3 v' H' hk.2 ev3 ra3 rep3
  | d y => exact plain ra hq
  | a φ => exact plain ra hq
  | ob C fs => exact plain ra hq
  | m c => exact plain ra hq
end
section
variable {X : Cx} {B : Bas}
theorem ev_told {nm : Nat → Nat → Str} {x w fo er ca : Str} {c : Value} {g c0 P : Addr} {k n : Nat} {pg : Arguments} {bg : List Stmt} {sg : Scope} {dV kV doc pm cdv ct oc : Value} {an od : Option Addr} {osl : Array (Option Value)} {ok : Addr → Prop}
    {params : Arguments} {body : Expr} {scope : Scope} {t : TSD} {tx : TVX} {p lpos pos : Pos} (hK : X.kw = B.K) (hg : Gl X x) (hm : X.mg x = some (.ref g)) (hk : PySem.W.keepIn X.K (.ref g) = true)
    (lk : X.K.lookup g = some ⟨oc, od, .func (PySem.W.fnOf x x pg bg sg dV kV doc pm an cdv ct), osl⟩) (hcg : PySem.W.codeIn X.K cdv x = true) (hb : L2.Binds X.K (PySem.W.fnOf x x pg bg sg dV kV doc pm an cdv ct) [w] []) (Sg : FnScope [w, fo, er, ca] [w] sg) (hva : Vis sg w)
    (hG : GivesS X [w, fo, er, ca] x sg g cdv bg w (X.env.qual ++ "<lambda>") (TTc B.T X.kw c 4 t))
    (hok : ∀ C, ok C → PySem.W.exmOne X.K (.ref C) c = some true)
    (TB : TabB X.base X.mg c0 P) (hcode : X.env.code = .ref c0) (hmT : (P, nm) ∈ B.T) (hn : nm lpos.line lpos.col = X.env.qual ++ "<lambda>") (hu : ∀ p ∈ B.T, p.1 = P → p.2 = nm) (hr : Room (k + 2) X.A) (L : LamS X.env.scope scope) (hdef : defaultsOf params X.env = ([], []))
    (hbind : ∀ (q : Str) (cl : List (Str × Addr)) (pm cv ctv : Value), bindArgs (PySem.W.kla_fn "<lambda>" q params body scope cl pm cv ctv) ⟨[], []⟩ = pure [])
    (hbody : ∀ (A : Around) (outer : List Env) (s : Shared) (H : Hp) (E : XK) (f c' : Addr), A.guards = X.A.guards → Room k (A.deeper (lamEnv X scope s.heap.objs.size f c')) → Takes (lamCx X A outer s H E scope f c') (fun cls d _ H' => E cls d H') → PE (lamCx X A outer s H E scope f c') body (liftX { B with wx := fun cls d _ H' => E cls d H' } tx))
    (hdb : (x == ("__debug__" : Str)) = false := by decide) (hd : (w == ("__debug__" : Str)) = false := by decide) (hcd : (w == ("__classdict__" : Str)) = false := by decide) :
    PE X (.Call (.Name x p) [.Lambda params body scope lpos] [] pos) (liftE B (dTold B.K ok 4 t tx)) := by
  refine PE_mono (pe_lamcallS (t := fun E => liftX { B with wx := fun cls d _ H' => E cls d H' } tx) hg hm hk lk hcg hb Sg rfl hva hG TB hcode hmT hn hu hr L hdef hbind (fun A outer s H E f c' hg2 hr2 => hbody A outer s H E f c' hg2 hr2 (takes_of rfl rfl rfl rfl)) hdb hd hcd) fun σ H Q hq => ?_
  obtain ⟨own, En, R, rep, ht, kk⟩ := hq
  refine ⟨rep.tb, fun H0 sm0 T0 H1 sm Q' hQ' => ?_⟩
  have rep1 := (rep.step sm0).step sm
  have ev0 : Evo own H own H1 := (Evo.step sm0.kp).trans (.step sm.kp)
  show liftX { B with wx := fun cls d _ H' => keepE B.T X.kw c 4 t Q cls d H' } tx σ H1 Q'
  refine ⟨own, En, _, _, rep1.wx _, ht, fun r E1 own1 v H2 q1 ev1 ra rp => hQ' v H2 fun f => ?_, fun C fs E1 own1 d H2 q1 ev1 xd rp => ⟨hok C q1.1, fun a na f => ?_⟩⟩
  · rw [hK]
    exact aft_ok rp.unwx ra (r3 := .d .none) .non nofun q1 fun r' own' v' H' hk ev2 ra2 rep2 => kk r' E1 own' v' H' hk ((ev0.trans ev1).trans ev2) ra2 rep2
  · rw [hK]
    obtain ⟨own2, rep2, ev2, ra2⟩ := rp.unwx.keepX (C := C) xd na
    exact aft_ok rep2 (r := .d .none) (.non) ra2 nofun q1.2 fun r' own' v' H' hk ev3 ra3 rep3 => kk r' E1 own' v' H' hk (((ev0.trans ev1).trans ev2).trans ev3) ra3 rep3
end
end Kf

set_option Elab.async false
set_option linter.all false
set_option maxRecDepth 100000
set_option maxHeartbeats 2000000
namespace Kf
open PySem PySem.Spec PyProof.Rows L2 LamX NdefX
/-! ## methods by keyword; methods and makings that don't raise -/
structure MtXK (P : Program) (w : World) (K : PySem.W.Frag) (mg : Str → Option Value) (base : Heap) (k : Nat) (C : Addr) (m : Str) (ks : List Str) (sp : Sp) : Prop where
  ex : ∃ (f : Addr) (fd : FuncData) (ps : List Str) (g : List Value → List Value → List Value), Cls K C ∧ Meth K C m f ∧ FnOk P w K mg base (L2.CX P w) k f fd ps sp ∧ KBn K fd ps 1 ks g (fun us zs => us ++ zs)
section
variable {X : Cx} {B : Bas} {W : WX} {a b c e o : Expr} {es : List Expr} {kws : List Keyword} {te : TV} {tx : TVX} {ts : TVs} {pos apos p : Pos} {C : Addr} {f m : Str}
theorem pe_methXK {k j : Nat} {ks : List Str} {sp : Sp} {ta : TE} {t : TA} {pl : Sem Bool} (M : MtXK X.prog X.w X.K X.mg X.base k C m ks sp) (tk : Takes X W) (hk : k ≤ j) (hr : Room j X.A) (he : PE X o ta) (hkw : PK X kws t)
    (hall : (backToKw pos (keywordEach kws X.env)).all (·.1.isSome) = true := by rfl) (hks : (backToKw pos (keywordEach kws X.env)).filterMap (·.1) = ks := by rfl)
    (hpl : ((backTo pos (starEach [] X.env)).any (·.1) || (backToKw pos (keywordEach kws X.env)).any (·.1.isNone)) = false := by rfl)
    (ht : eval (.Call (.Attribute o m apos) [] kws pos) X.env = (do
      let ov ← eval o X.env
      standAt apos.atName
      let (f, first) ← holding [ov] (getMethod ov m pl)
      callWith pos f first (backTo pos (starEach [] X.env)) (backToKw pos (keywordEach kws X.env))) := by rfl) :
    PE X (.Call (.Attribute o m apos) [] kws pos) (tMethX C m (fun vs H Q E => vs.length = ks.length + 1 ∧ sp vs H Q E) W ta t) := by
  obtain ⟨f, fd, ps, g, c, hm, F, hb⟩ := M.ex
  refine ⟨fun pins s σ H Q I h => ?_⟩
  refine PySem.W.methodCall_KW (pl := pl) (thn (he.run pins s σ H _ I h) fun u s1 ⟨x, H1, I1, rx, a, dx, fs, ex, ea, l, q⟩ => ?_) ht
  subst ex
  obtain rfl : u = Value.ref a := rx
  refine getmeth_ok I1 ea c hm l ?_
  refine PySem.W.callWith_KW0 (first := [.ref a]) (h₀ := X.base) I1.ok.mod.kin hm.kp hall ?_ hpl
  refine thn (hkw.run pos pins s1 σ H1 _ I1 q) fun ws s2 ⟨zs, H2, I2, rz, hl, q2⟩ => ⟨I2.kIn, ?_⟩
  rw [hks]
  have r1 : Vals [V.ref a] [Value.ref a] := .cons rfl .nil
  have r2 := hb.rel r1 rz
  have e2 : ws.length = ks.length := by
    rw [← rz.length]
    simpa using hl
  refine wpAny_call (codeAny_mono (F.run X.A X.stack s2 H2 ⟨[Value.ref a], ks.zip ws⟩ (g [Value.ref a] ws) (V.ref a :: zs) Q _ (hr.mono hk) I2.env0 (hb.to s2 [Value.ref a] ws I2.kIn rfl e2) r2 q2) fun r s' hq => ?_)
  cases r with
  | error e => exact tk e s' (XE.of_call I2 (fun cls d H' h => h) hq)
  | ok fl =>
    cases fl with
    | ret u => exact I2.after hq
    | next => exact False.elim hq
    | brk => exact False.elim hq
    | cont => exact False.elim hq
theorem metE {n : Nat} {tf : List Rv → (Rv → Prop) → (Addr → List (Str × PyData) → Prop) → Prop} {σ : L2.St} {H : Hp} {Q : VK} (hq : liftX B (dMetX C m n tf te ts) σ H Q) : tMethX C m (fun vs H Q E => vs.length = n ∧ spTX B.T B.K n tf vs H Q E) B.wx (liftE B te) (liftA B ts) σ H Q := by
  obtain ⟨own, E, R, Rx, rep, ht, k, kx⟩ := hq
  refine ⟨own, E, _, rep, ht, fun r E1 own1 v H1 q1 ev1 ra rep1 => ?_⟩
  cases r with
  | ob C' fs =>
    obtain ⟨⟨rfl, hno⟩, q1⟩ := q1
    have ra0 := ra
    obtain ⟨x, dx, vs, rfl, hx, hf⟩ := ra
    refine ⟨x, dx, vs, rfl, (hid_some hx).2, DaF.none hf hno, own1, E1, _, rep1, q1, fun rs E2 own2 ws H2 q2 ev2 rs2 rep2 => ?_⟩
    have ra2 : RvS B.K B.W (hid own2 H2) (.ref x) (.ob C' fs) := RvS.sm ev2.ex ra0
    have hl : ws.length + 1 = n := by rw [pairLen rs2]; exact q2.1
    refine ⟨hl, hid own2 H2, .ob C' fs :: rs, _, _, B.W, hl, hid_sub, rep2.tb, rep2.wf, .cons ra2 rs2, q2.2, fun r v S' H' hr st rn => ?_, fun D gs d S' H' hr st x => ?_⟩
    · obtain ⟨own3, rep3, ev3, ra⟩ := rep2.resW st rn
      exact k r E2 own3 v H' hr ((ev1.trans ev2).trans ev3) ra rep3
    · obtain ⟨own3, rep3, ev3, x3⟩ := ExcD.at rep2 st x
      exact kx D gs E2 own3 d H' hr ((ev1.trans ev2).trans ev3) x3 rep3
  | _ => exact q1.elim
theorem ev_metXK {k j n : Nat} {ks : List Str} {tf : List Rv → (Rv → Prop) → (Addr → List (Str × PyData) → Prop) → Prop} {pl : Sem Bool} (M : MtXK X.prog X.w X.K X.mg X.base k C m ks (spTX B.T B.K n tf)) (hn : ks.length + 1 = n) (tk : Takes X B.wx) (hk : k ≤ j) (hr : Room j X.A) (he : PE X o (liftE B te)) (hkw : PK X kws (liftA B ts))
    (hall : (backToKw pos (keywordEach kws X.env)).all (·.1.isSome) = true := by rfl) (hks : (backToKw pos (keywordEach kws X.env)).filterMap (·.1) = ks := by rfl)
    (hpl : ((backTo pos (starEach [] X.env)).any (·.1) || (backToKw pos (keywordEach kws X.env)).any (·.1.isNone)) = false := by rfl)
    (ht : eval (.Call (.Attribute o m apos) [] kws pos) X.env = (do
      let ov ← eval o X.env
      standAt apos.atName
      let (f, first) ← holding [ov] (getMethod ov m pl)
      callWith pos f first (backTo pos (starEach [] X.env)) (backToKw pos (keywordEach kws X.env))) := by rfl) :
    PE X (.Call (.Attribute o m apos) [] kws pos) (liftX B (dMetX C m n tf te ts)) := PE_mono (pe_methXK (pl := pl) M tk hk hr he hkw hall hks hpl ht) fun σ H Q hq => by
  subst hn
  exact metE hq
/-! ### where nothing is raised -/
def calmX (tx : TVX) : TV := fun E R => tx E R fun _ _ _ => False
theorem takesF {W : WX} (h : ∀ c d σ H, ¬ W c d σ H) : Takes X W := fun u s' ⟨a, Bh, sI, pins, σ, H, cls, d, _, _, _, _, _, _, _, _, w⟩ => (h _ _ _ _ w).elim
theorem ev_calm (h : PE X e (liftX { B with wx := fun _ _ _ _ => False } tx)) : PE X e (liftE B (calmX tx)) := PE_mono h fun σ H Q hq => by
  obtain ⟨own, E, R, rep, ht, k⟩ := hq
  exact ⟨own, E, R, _, rep.wx _, ht, fun r E' own' v H' hr ev ra rp => k r E' own' v H' hr ev ra rp.unwx, fun C fs E' own' d H' hr _ _ _ => hr⟩
end
end Kf

set_option Elab.async false
set_option linter.all false
set_option maxRecDepth 100000
set_option maxHeartbeats 2000000
namespace Kf
open PySem PySem.Spec PyProof.Rows L2 LamX NdefX
/-! ## __init__ by its reading -/
abbrev Flds := List (Str × PyData)
abbrev TSI := (Flds → EnvD → Prop) → (Addr → Flds → EnvD → Prop) → Flds → EnvD → Prop
def atX (x : Addr) : V → Hp → Prop := fun v _ => v = .ref x
def liftI (B : Bas) (C x dx : Addr) (t : TSI) : TS := fun D σ H => ∃ own E ws fs nx rs, Rep B own σ H E ∧ own x = some .fr ∧ H x = some (.ins C dx ws) ∧ DaF B.K (hid own H) ws fs ∧ t nx rs fs E ∧
  (∀ fs' own' E' σ' H' ws', nx fs' E' → Rep B own' σ' H' E' → own' x = some .fr → H' x = some (.ins C dx ws') → DaF B.K (hid own' H') ws' fs' → D.nx σ' H') ∧
  (∀ G gs own' E' σ' d H', rs G gs E' → ExcD B.K (hid own' H') d gs → Rep B own' σ' H' E' → own' x = some .fr → B.wx (.ref G) d σ' H')
def iSeq (t u : TSI) : TSI := fun nx rs fs E => t (fun fs' E' => u nx rs fs' E') rs fs E
def iOf (t : TSD) : TSI := fun nx rs fs E => t { nx := fun E' => nx fs E', rt := fun _ _ => False, rs := rs } E
def iFld (x : Addr) (f : Str) (te : TV) : TSI := fun nx _ fs E => te E fun r E1 => r.toD (fun d E1 => (E1[0]? = some (some (.a (atX x))) ∧ fs.lookup f = none ∧ fs.length < 1000) ∧ nx (fs ++ [(f, d)]) E1) E1
theorem putF_new {f : Str} {v : V} : ∀ {ws : List (Str × V)}, ws.lookup f = none → putF f v ws = ws ++ [(f, v)]
  | [], _ => rfl
  | (g, u) :: r, h => by
    rw [List.lookup_cons] at h
    cases q : f == g with
    | true => rw [q] at h; cases h
    | false =>
      rw [q] at h
      show (if g = f then _ else _) = _
      rw [if_neg (fun z => by rw [z] at q; simp at q), putF_new h]
      rfl
theorem DaF.app {K : KW} {S : Hp} {f : Str} {v : V} {d : PyData} (h : Dx K S v d) : ∀ {ws : List (Str × V)} {fs : Flds}, DaF K S ws fs → DaF K S (ws ++ [(f, v)]) (fs ++ [(f, d)])
  | _, _, .nil => .cons h .nil
  | _, _, .cons a r => .cons a (DaF.app h r)
theorem DaF.len {K : KW} {S : Hp} : ∀ {ws : List (Str × V)} {fs : Flds}, DaF K S ws fs → ws.length = fs.length
  | _, _, .nil => rfl
  | _, _, .cons a r => by simp [DaF.len r]
section
variable {X : Cx} {B : Bas} {C x dx : Addr} {st : Stmt} {rest : List Stmt} {t u : TSI} {ts : TSD} {te : TV} {o value : Expr} {f : Str} {pos pos' : Pos}
theorem is_cons (h1 : PS X st (liftI B C x dx t)) (h2 : PSs X rest (liftI B C x dx u)) : PSs X (st :: rest) (liftI B C x dx (iSeq t u)) := PSs_mono (pss_cons h1 h2) fun D σ H hq => by
  obtain ⟨own, E, ws, fs, nx, rs, rep, o, hx, df, ht, k1, k2⟩ := hq
  exact ⟨own, E, ws, fs, _, rs, rep, o, hx, df, ht, fun fs' own' E' σ' H' ws' q rep' o' hx' df' => ⟨own', E', ws', fs', nx, rs, rep', o', hx', df', q, k1, k2⟩, k2⟩
theorem is_one (h1 : PS X st (liftI B C x dx t)) : PSs X [st] (liftI B C x dx t) := pss_one h1
theorem is_of (h : PS X st (liftS B ts)) : PS X st (liftI B C x dx (iOf ts)) := PS_mono h fun D σ H hq => by
  obtain ⟨own, E, ws, fs, nx, rs, rep, o, hx, df, ht, k1, k2⟩ := hq
  exact ⟨own, E, _, rep, ht, fun own' E' σ' H' q ev rep' => k1 fs own' E' σ' H' ws q rep' (ev.fr x o).1 ((ev.fr x o).2 _ hx nofun) (df.sm ev.ex), fun _ _ _ _ _ _ q => q.elim, fun _ _ _ _ q => q.elim, fun _ _ _ _ q => q.elim, fun G gs own' E' σ' d H' q ev xd rep' => k2 G gs own' E' σ' d H' q xd rep' (ev.fr x o).1⟩
/-- what is one's own to build is changed -/
theorem Rep.upX {own : Owns} {σ : L2.St} {H : Hp} {E : EnvD} {ws ws' : List (Str × V)} (R : Rep B own σ H E) (g : gvA B.gv x) (o : own x = some .fr) (hx : H x = some (.ins C dx ws)) : Rep B own σ (upd H x (.ins C dx ws')) E ∧ hid own (upd H x (.ins C dx ws')) = hid own H := by
  have eh : hid own (upd H x (.ins C dx ws')) = hid own H := by
    funext a
    by_cases z : a = x
    · subst z; rw [hid_own o, hid_own o]
    · unfold hid
      rw [upd_ne z]
  have nm : ¬ muW B.W x := fun z => by rw [R.wd.tg x z] at o; cases o
  refine ⟨⟨R.len, fun a e => ?_, R.bs.trans ⟨fun b u e n nt => ?_, fun b e => ?_, fun tb p hp => ?_⟩, by rw [eh]; exact R.ss, fun p hp => ?_, R.fr, R.nw, ⟨R.wd.tg, fun c hc => c.ist H _ (fun a u m e n => ?_) (R.wd.kp c hc), R.wd.dj, fun a w e => ?_⟩, fun i r e => ?_, R.pin⟩, eh⟩
  · by_cases z : a = x
    · subst z; rw [upd_same] at e; cases e
    · rw [upd_ne z] at e; exact R.al a e
  · rw [upd_ne (fun z => by subst z; exact n (.inr g))]; exact e
  · by_cases z : b = x
    · subst z; rw [upd_same] at e; cases e
    · rw [upd_ne z] at e; exact e
  · obtain ⟨ps, h1, h2, h3⟩ := tb p hp
    refine ⟨ps, ?_, h2, fun p' cv hcv => ?_⟩
    · rw [upd_ne (fun z => by rw [z, hx] at h1; cases h1)]; exact h1
    · obtain ⟨c', e, h⟩ := h3 p' cv hcv
      refine ⟨c', e, ?_⟩
      rw [upd_ne (fun z => by rw [z, hx] at h; cases h)]; exact h
  · obtain ⟨ps, h1, h2, h3⟩ := R.tb p hp
    refine ⟨ps, ?_, h2, fun p' cv hcv => ?_⟩
    · rw [upd_ne (fun z => by rw [z, hx] at h1; cases h1)]; exact h1
    · obtain ⟨c', e, h⟩ := h3 p' cv hcv
      refine ⟨c', e, ?_⟩
      rw [upd_ne (fun z => by rw [z, hx] at h; cases h)]; exact h
  · rw [upd_ne (fun z => by subst z; exact nm ⟨c, hc, m⟩)]; exact e
  · by_cases z : a = x
    · subst z; exact .inr ⟨_, upd_same, trivial⟩
    · rw [upd_ne z]; exact R.wd.hl a w e
  · obtain ⟨v, h1, h2⟩ := R.sl i r e
    refine ⟨v, h1, h2.sm (by rw [eh]; exact ExtN.refl _) fun a e => ⟨e, ?_⟩⟩
    rw [upd_ne (fun z => by subst z; rw [o] at e; cases e)]
theorem is_fld (hK : X.K = B.K.K) (hg : gvA B.gv x) (hc : Cls X.K C) (hn : NoAttr X.K C f) (ha : PE X o (tVar 0)) (hv : PE X value (liftD B te)) (hs : swapsWith value (some (.Attribute o f pos')) pos.line X.env = pure false := by rfl) : PS X (.Assign [.Attribute o f pos'] value pos) (liftI B C x dx (iFld x f te)) := PS_mono (ps_fld ha hv hs) fun D σ H hq => by
  obtain ⟨own, E, ws, fs, nx, rs, rep, o, hx, df, ht, k1, k2⟩ := hq
  have ht' : liftD B te σ H fun y H1 => ∃ own1 E1 d, Rep B own1 σ H1 E1 ∧ Evo own H own1 H1 ∧ Dx B.K (hid own1 H1) y d ∧ (E1[0]? = some (some (.a (atX x))) ∧ fs.lookup f = none ∧ fs.length < 1000) ∧ nx (fs ++ [(f, d)]) E1 := ⟨own, E, _, rep, ht, fun d E1 own1 v H1 q ev dv rep1 => ⟨own1, E1, d, rep1, ev, dv, q⟩⟩
  obtain ⟨ow, En, R, rp, tt, kk⟩ := ht'
  refine ⟨ow, En, R, rp, tt, fun d0 E0 own0 v H1 q0 ev0 dv0 rep0 => ?_⟩
  obtain ⟨own1, E1, d, rep1, ev, dv, ⟨e0, hl, hlen⟩, hnx⟩ := kk d0 E0 own0 v H1 q0 ev0 dv0 rep0
  obtain ⟨v0, s0, r0⟩ := rep1.sl 0 _ e0
  have r1 : v0 = .ref x := (show ∀ S', ExtN (hid own1 H1) S' → atX x v0 S' from r0) _ (ExtN.refl _)
  subst r1
  have o1 := (ev.fr x o).1
  have hx1 := (ev.fr x o).2 _ hx nofun
  have df1 := df.sm ev.ex
  obtain ⟨rep2, eh⟩ := rep1.upX (ws' := ws ++ [(f, v)]) hg o1 hx1
  refine ⟨.ref x, s0, x, C, dx, ws, rfl, hx1, hc, hn, by rw [df1.len]; exact hlen, ?_⟩
  rw [putF_new (DaF.none df1 hl)]
  exact k1 (fs ++ [(f, d)]) own1 E1 σ _ _ hnx rep2 o1 upd_same (by rw [eh]; exact df1.app dv)
end
def defI (n : Nat) (t : Addr → TSI) : List Rv → (Flds → Prop) → (Addr → Flds → Prop) → Prop := fun rs R Rx => ∀ x, t x (fun fs _ => R fs) (fun G gs _ => Rx G gs) [] (some (.a (atX x)) :: rs.map some ++ List.replicate (n - (rs.length + 1)) none)
theorem fnokI {K : KW} {mg : Str → Option Value} {base : Heap} {T : List NTab} {qual : Str} {st : Stmt} {f C : Addr} {fd : FuncData} {N ps : List Str} {k : Nat} {t : Addr → TSI} (F : L2.Fun K "__init__" qual st f fd) (S : FnScope N ("self" :: ps) (defScope st))
    (hb : ∀ (x dx : Addr) (cdv : Value) (A : Around) (outer : List Env) (s : Shared) (H : Hp) (E : XK) (B : Bas), B.K = K → B.T = T → B.gv = [(0, x)] → Takes (cxOf (L2.CX K.P K.w) K.P K.w K.K mg base N qual (defScope st) f cdv A outer s H E) B.wx → Room k (A.deeper (envOfC qual (defScope st) s.heap.objs.size f cdv)) → PSs (cxOf (L2.CX K.P K.w) K.P K.w K.K mg base N qual (defScope st) f cdv A outer s H E) (defBody st) (liftI B C x dx (t x))) :
    FnOk K.P K.w K.K mg base (L2.CX K.P K.w) (k + 1) f fd ("self" :: ps) (spIni T K C ps.length (defI N.length t)) := by
  refine F.okX S (fun vs H Q E h => ?_) (fun cdv A outer s H vs Q E hr h => ?_)
  · obtain ⟨x, dx, S0, args, rs, R, Rx, W, rfl, hl, _⟩ := h
    rw [List.length_cons, List.length_cons, hl]
  · obtain ⟨x, dx, S0, args, rs, R, Rx, W, rfl, hl, hx, sx, mx, sub, tb, wf, pr, ht, k, kx⟩ := h
    have hN : ps.length + 1 ≤ N.length := by
      have := congrArg List.length S.pre
      rw [List.length_take] at this
      simp at this
      omega
    refine ⟨_, hb x dx cdv A outer s H E ⟨T, K, H, S0, W, [(0, x)], fun cls d _ H' => E cls d H'⟩ rfl rfl rfl (takes_of rfl rfl rfl rfl) hr, ?_⟩
    have hrs : rs.length = ps.length := by rw [← pairLen pr]; exact hl
    have gx : ∀ a, gvA [(0, x)] a ↔ a = x := fun a => ⟨fun ⟨i, m⟩ => by
      have := List.mem_singleton.mp m
      exact (Prod.mk.inj this).2, fun e => ⟨0, by rw [e]; exact List.mem_singleton.mpr rfl⟩⟩
    have dec : ∀ a, Decidable (muW W a) := fun a => Classical.propDecidable _
    let own0 : Owns := fun a => if muW W a then some .mu else if (H a).isSome && (S0 a).isNone then some .fr else none
    have o_def : ∀ a, own0 a = if muW W a then some .mu else if (H a).isSome && (S0 a).isNone then some .fr else none := fun a => rfl
    have o_none : ∀ a o, S0 a = some o → own0 a = none := fun a o e => by
      have nm : ¬ muW W a := fun z => by have := (wf.hs a z).1; rw [e] at this; cases this
      rw [o_def, if_neg nm, e]
      simp
    have o_fr : ∀ a, H a ≠ none → S0 a = none → ¬ muW W a → own0 a = some .fr := fun a h1 h2 nm => by
      rw [o_def, if_neg nm, h2]
      cases e : H a with
      | none => exact absurd e h1
      | some o => rfl
    have o_mu : ∀ a, muW W a → own0 a = some .mu := fun a m => by rw [o_def, if_pos m]
    have o_x : own0 x = some .fr := o_fr x (by rw [hx]; nofun) sx mx
    have eh : hid own0 H = S0 := by
      funext a
      cases e : S0 a with
      | some o => rw [hid_no (o_none a o e)]; exact sub a o e
      | none =>
        by_cases nm : muW W a
        · exact hid_own (o_mu a nm)
        · cases e2 : H a with
          | none =>
            unfold hid
            rw [e2]
            cases (own0 a).isSome <;> rfl
          | some o => exact hid_own (o_fr a (by rw [e2]; nofun) e nm)
    have rep : Rep ⟨T, K, H, S0, W, [(0, x)], fun cls d _ H' => E cls d H'⟩ own0 (L2.start N (.ref x :: args)) H (some (.a (atX x)) :: rs.map some ++ List.replicate (N.length - (rs.length + 1)) none) := by
      refine ⟨by unfold L2.start; simp [hl, hrs], fun a e => ?_, SmM.refl, by rw [eh]; exact .refl _, tb, fun a h1 h2 h3 => o_fr a h1 h2 fun z => h3 (.inl z), fun a o e => ?_, ⟨o_mu, wf.kp, wf.dj, fun a w e => ?_⟩, fun i r e => ?_, fun i a m y e => ?_⟩
      · have nm : ¬ muW W a := fun z => (wf.hs a z).2 e
        rw [o_def, if_neg nm, e]
        rfl
      · rw [o_def] at e
        split at e
        · exact .inr (.inl (Option.some.inj e).symm)
        · split at e
          · exact .inl (Option.some.inj e).symm
          · cases e
      · rw [o_def] at e
        split at e
        · rename_i m; exact .inl m
        · split at e
          · rename_i q
            rw [Bool.and_eq_true] at q
            obtain ⟨o, ho⟩ := Option.isSome_iff_exists.mp q.1
            exact .inr ⟨o, ho, wf.nt a o ho (Option.isNone_iff_eq_none.mp q.2)⟩
          · cases e
      · match i with
        | 0 =>
          cases e
          exact ⟨.ref x, rfl, fun _ _ => rfl⟩
        | i + 1 =>
          have e : (rs.map some ++ List.replicate (N.length - (rs.length + 1)) none)[i]? = some (some r) := e
          by_cases hi : i < rs.length
          · rw [List.getElem?_append_left (by simpa using hi), List.getElem?_map] at e
            cases e2 : rs[i]? with
            | none => rw [e2] at e; cases e
            | some r' =>
              rw [e2] at e
              obtain rfl : r' = r := by simpa using e
              obtain ⟨v, h1, h2⟩ := pairGet pr e2
              refine ⟨v, ?_, RvAt.of (by rw [eh]; exact h2)⟩
              unfold L2.start
              have hi2 : i < args.length := (List.getElem?_eq_some_iff.mp h1).1
              rw [List.getElem?_append_left (by simp; omega), List.getElem?_map, List.getElem?_cons_succ, h1]
              rfl
          · rw [List.getElem?_append_right (by simpa using hi), List.getElem?_replicate] at e
            split at e <;> cases e
      · have := List.mem_singleton.mp m
        obtain ⟨rfl, rfl⟩ := Prod.mk.inj this
        cases e
    refine ⟨own0, _, [], [], _, _, rep, o_x, hx, .nil, ht x, fun fs' own' E' σ' H' ws' q rep' o' hx' df' => ?_, fun G gs own' E' σ' d H' q xd rep' o' => ?_⟩
    all_goals
      have stp : StpI T W x S0 H (hid own' H') H' := ⟨rep'.bs.up fun a m => m.elim .inl fun z => .inr ((gx a).mp z), rep'.ss, hid_sub, fun a h1 h2 => by
        by_cases nm : muW W a
        · exact hid_own (rep'.wd.tg a nm)
        · by_cases z : a = x
          · subst z
            exact hid_own o'
          · exact hid_own (rep'.fr a h1 h2 fun q => q.elim nm fun q => z ((gx a).mp q)), rep'.wd.kp⟩
    · exact k fs' ws' (hid own' H') H' q stp hx' df'
    · exact kx G gs d (hid own' H') H' q stp xd
end Kf

set_option Elab.async false
set_option linter.all false
set_option maxRecDepth 100000
set_option maxHeartbeats 2000000
namespace Kf
open PySem PySem.Spec PyProof.Rows L2 LamX NdefX
/-! ## catchers and lambdas as premises -/
/-- a def whose code object is known -/
structure FunC (K : PySem.W.Frag) (x qual : Str) (st : Stmt) (f : Addr) (fd : FuncData) (c : Addr) : Prop where
  ex : ∃ (oc : Value) (od : Option Addr) (kV doc pm : Value) (an : Option Addr) (ct : Value) (osl : Array (Option Value)),
    fd = PySem.W.fnOf x qual (defArgs st) (defBody st) (defScope st) .none kV doc pm an (.ref c) ct ∧ K.lookup f = some ⟨oc, od, .func fd, osl⟩ ∧ PySem.W.codeIn K (.ref c) qual = true
section
variable {P : Program} {w : World} {K : PySem.W.Frag} {mg : Str → Option Value} {base : Heap}
theorem okGC {x qual : Str} {st : Stmt} {f c : Addr} {fd : FuncData} {N ps : List Str} {k : Nat} {sp : Sp} (F : FunC K x qual st f fd c) (S : FnScope N ps (defScope st)) (len : ∀ vs H Q E, sp vs H Q E → vs.length = ps.length)
    (hbody : ∀ (A : Around) (outer : List Env) (s : Shared) (H : Hp) (vs : List V) (Q : VK) (E : XK), Room k (A.deeper (envOfC qual (defScope st) s.heap.objs.size f (.ref c))) → (A.deeper (envOfC qual (defScope st) s.heap.objs.size f (.ref c))).guards = some [] → sp vs H Q E →
      ∃ t, PSs (cxOf CX0 P w K mg base N qual (defScope st) f (.ref c) A outer s H E).nox (defBody st) t ∧ t { nx := fun _ H' => Q .non H', rt := Q } (L2.start N vs) H) : FnOkG P w K mg base (k + 1) f fd ps sp := by
  obtain ⟨oc, od, kV, doc, pm, an, ct, osl, rfl, lk, hcd⟩ := F.ex
  refine ⟨len, fun A outer s H args us vs Q E hr hg e0 hb r hsp => ?_⟩
  refine run_ofS lk hcd S hr e0 hb r (len _ _ _ _ hsp) fun hr' => ?_
  obtain ⟨t, h, q⟩ := hbody A outer s H vs Q E hr' hg hsp
  exact ⟨t, h.nox, q⟩
end
/-- the def's code object has a table for its lambdas -/
structure LmAt (base : Heap) (mg : Str → Option Value) (cdv : Value) (T : List NTab) (qual : Str) : Prop where
  ex : ∃ c0 P nm, TabB base mg c0 P ∧ cdv = .ref c0 ∧ (P, nm) ∈ T ∧ (∀ l c, nm l c = qual ++ "<lambda>") ∧ ∀ p ∈ T, p.1 = P → p.2 = nm
structure ToldC (K : KW) (mg : Str → Option Value) (T : List NTab) (x w fo er ca : Str) (c : Value) (t : TSD) : Prop where
  ex : ∃ (g : Addr) (pg : Arguments) (bg : List Stmt) (sg : Scope) (dV kV doc pm cdv ct oc : Value) (an od : Option Addr) (osl : Array (Option Value)), mg x = some (.ref g) ∧ PySem.W.keepIn K.K (.ref g) = true ∧ K.K.lookup g = some ⟨oc, od, .func (PySem.W.fnOf x x pg bg sg dV kV doc pm an cdv ct), osl⟩ ∧
    PySem.W.codeIn K.K cdv x = true ∧ L2.Binds K.K (PySem.W.fnOf x x pg bg sg dV kV doc pm an cdv ct) [w] [] ∧ FnScope [w, fo, er, ca] [w] sg ∧ Vis sg w ∧ ∀ (X : Cx) (q : Str), X.kw = K → X.mg = mg → GivesS X [w, fo, er, ca] x sg g cdv bg w q (TTc T X.kw c 4 t)
section
variable {X : Cx} {B : Bas}
theorem ev_toldC {x w fo er ca : Str} {c : Value} {k : Nat} {ok : Addr → Prop} {params : Arguments} {body : Expr} {scope : Scope} {t : TSD} {tx : TVX} {p lpos pos : Pos} (W : ToldC B.K X.mg B.T x w fo er ca c t) (LM : LmAt X.base X.mg X.env.code B.T X.env.qual) (hK : X.kw = B.K) (hg : Gl X x)
    (hok : ∀ C, ok C → PySem.W.exmOne B.K.K (.ref C) c = some true) (hr : Room (k + 2) X.A) (L : LamS X.env.scope scope)
    (hbody : ∀ (A : Around) (outer : List Env) (s : Shared) (H : Hp) (E : XK) (f c' : Addr), A.guards = X.A.guards → Room k (A.deeper (lamEnv X scope s.heap.objs.size f c')) → Takes (lamCx X A outer s H E scope f c') (fun cls d _ H' => E cls d H') → PE (lamCx X A outer s H E scope f c') body (liftX { B with wx := fun cls d _ H' => E cls d H' } tx))
    (hdef : defaultsOf params X.env = ([], []) := by rfl)
    (hbind : ∀ (q : Str) (cl : List (Str × Addr)) (pm cv ctv : Value), bindArgs (PySem.W.kla_fn "<lambda>" q params body scope cl pm cv ctv) ⟨[], []⟩ = pure [] := by intros; rfl)
    (hdb : (x == ("__debug__" : Str)) = false := by decide) (hd : (w == ("__debug__" : Str)) = false := by decide) (hcd : (w == ("__classdict__" : Str)) = false := by decide) :
    PE X (.Call (.Name x p) [.Lambda params body scope lpos] [] pos) (liftE B (dTold B.K ok 4 t tx)) := by
  obtain ⟨g, pg, bg, sg, dV, kV, doc, pm, cdv, ct, oc, an, od, osl, hm, kp, lk, hcg, hb, Sg, hva, hG⟩ := W.ex
  obtain ⟨c0, P, nm, TB, hcode, hmT, hn, hu⟩ := LM.ex
  have hKK : X.K = B.K.K := by rw [← hK]; rfl
  exact ev_told (n := 0) hK hg hm (by rw [hKK]; exact kp) (by rw [hKK]; exact lk) (by rw [hKK]; exact hcg) (by rw [hKK]; exact hb) Sg hva (hG X _ hK rfl) (by rw [hKK]; exact hok) TB hcode hmT (hn _ _) hu hr L hdef hbind hbody hdb hd hcd
end
end Kf

set_option Elab.async false
set_option linter.all false
set_option maxRecDepth 100000
set_option maxHeartbeats 2000000
namespace Kf
open PySem PySem.Spec PyProof.Rows L2 LamX NdefX
/-! ## sep.join(texts) -/
def strsQ : List PyData → Option (List Str)
  | [] => some []
  | .str s :: r => (strsQ r).map (s :: ·)
  | _ :: _ => none
theorem strsQ_da {K : KW} {S : Hp} : ∀ {xs : List V} {ds : List PyData} {ys : List Str}, DxAll K S xs ds → strsQ ds = some ys → xs = ys.map V.str
  | _, _, _, .nil, e => by cases e; rfl
  | _, _, ys, .cons (d := d) h r, e => by
    cases h with
    | str z =>
      simp only [strsQ] at e
      cases q : strsQ _ with
      | none => rw [q] at e; cases e
      | some l =>
        rw [q] at e
        cases e
        rw [List.map_cons, strsQ_da r q]
    | _ => simp [strsQ] at e
theorem strsQ_str : ∀ l : List Str, strsQ (l.map .str) = some l
  | [] => rfl
  | s :: r => by simp [strsQ, strsQ_str r]
def joinK (a : Str) (o : Option (List Str)) (R : PyData → Prop) : Prop := match o with
  | some ys => (ys.map (·.length)).sum + ys.length * a.length ≤ 16777216 ∧ R (.str (Txt.join a ys))
  | none => False
def gJoin (d e : PyData) (R : PyData → Prop) : Prop := match d with
  | .str a => match itemsD e with
    | some ds => joinK a (strsQ ds) R
    | none => False
  | _ => False
def dJoin (a : Str) (te : TV) : TV := fun E R => te E fun r2 E2 => r2.toD (fun e E2 => gJoin (.str a) e fun x => R (.d x) E2) E2
section
variable {X : Cx} {B : Bas} {e : Expr} {te : TV} {a : Str} {j : Nat} {p0 pos apos : Pos}
theorem ev_join (hK : X.K = B.K.K) (he : PE X e (liftE B te)) (hs : starEach [e] X.env = [(false, eval e X.env)] := by rfl) (hbase : attributeBase (.Constant (.str a) j p0) "join" X.env (eval (.Constant (.str a) j p0) X.env) = eval (.Constant (.str a) j p0) X.env := by rfl) (hline : (apos.endLine == pos.line) = true := by rfl) :
    PE X (.Call (.Attribute (.Constant (.str a) j p0) "join" apos) [e] [] pos) (liftE B (dJoin a te)) := PE_mono (pe_join pe_str (ev_D he) hs hbase hline) fun σ H Q hq => by
  obtain ⟨own, E, R, rep, ht, k⟩ := hq
  refine ⟨⟨a, rfl⟩, own, E, _, rep, ht, fun e E2 own2 w H2 q2 ev2 de rep2 => ?_⟩
  have g : (match itemsD e with | some ds => joinK a (strsQ ds) (fun x => R (.d x) E2) | none => False) := q2
  cases de with
  | @lst p xs ds h r =>
    have g : joinK a (strsQ ds) (fun x => R (.d x) E2) := g
    cases q : strsQ ds with
    | none => rw [q] at g; exact g.elim
    | some ys =>
      rw [q] at g
      have ex := strsQ_da r q
      subst ex
      exact ⟨a, p, ys, rfl, rfl, .inl (by rw [hK]; exact sqL_sub hid_sub h), g.1, k _ E2 own2 _ H2 g.2 ev2 (.str _) rep2⟩
  | @tup p xs ds h r =>
    have g : joinK a (strsQ ds) (fun x => R (.d x) E2) := g
    cases q : strsQ ds with
    | none => rw [q] at g; exact g.elim
    | some ys =>
      rw [q] at g
      have ex := strsQ_da r q
      subst ex
      exact ⟨a, p, ys, rfl, rfl, .inr (by rw [hK]; exact sqT_sub hid_sub h), g.1, k _ E2 own2 _ H2 g.2 ev2 (.str _) rep2⟩
  | _ => exact g.elim
end
end Kf

set_option Elab.async false
set_option linter.all false
set_option maxRecDepth 100000
set_option maxHeartbeats 2000000
namespace Kf
open PySem PySem.Spec PyProof.Rows L2 LamX NdefX
section
variable {X : Cx} {B : Bas} {t1 t2 : TV} {st : Stmt}
/-- a, b = e, f by a tuple: one of the names is a cell -/
theorem es_parC {i1 i2 : Nat} (h1 : ∀ a, (i1, a) ∉ B.gv) (h2 : ∀ a, (i2, a) ∉ B.gv) (hne : i1 ≠ i2) (h : PS X st (tAsg (tTup (tCons (liftE B t1) (tCons (liftE B t2) tNil))) (gTup X.K 2 (gCons (gName i1) (gCons (gName i2) gNil))))) : PS X st (liftS B (sPar i1 t1 i2 t2)) := PS_mono h fun D σ H hq => by
  obtain ⟨own, E, De, rep, ht, k1, k2, k3, k4⟩ := hq
  refine ⟨own, E, _, rep, ht, fun r1 E1 own1 v1 H1 q1 ev1 ra1 rep1 => ?_⟩
  obtain ⟨ownA, repA, evA, asd, tm⟩ := rep1.aside ra1
  refine ⟨ownA, E1, _, repA, q1, fun r2 E2 own2 v2 H2 q2 ev2 ra2 rep2 => ⟨by show 2 ≤ sizeLine; rw [sizeLine_eq]; omega, fun p np => ⟨p, [v1, v2], rfl, .of upd_same, rfl, v1, [v2], rfl, ?_⟩⟩⟩
  show gCons (gName i2) gNil [v2] (σ.set i1 (some v1)) _ D.nx
  refine ⟨v2, [], rfl, ?_⟩
  show gNil [] ((σ.set i1 (some v1)).set i2 (some v2)) _ D.nx
  refine ⟨rfl, ?_⟩
  have asd2 := asd.evo ev2
  obtain ⟨own4, rep4, ev4⟩ := rep2.put ra2 q2.1.2 h2
  have sm := (Stp.new (T := B.T) (o := .tup [v1, v2]) (hid_sub (own := own4) (H := H2)) np).sm
  have rep4 := rep4.step sm
  have evS : Evo own4 H2 own4 _ := .step sm.kp
  have asd4 := (asd2.evo ev4).evo evS
  have evs : Evo own H own4 _ := ((((ev1.trans evA).trans ev2).trans ev4).trans evS)
  obtain ⟨own5, rep5, ev5, eh, ra5⟩ := rep4.comeback asd4 ev1 tm evs
  obtain ⟨own6, rep6, ev6⟩ := rep5.put ra5 (by simpa using q2.1.1) h1
  have e : (σ.set i1 (some v1)).set i2 (some v2) = (σ.set i2 (some v2)).set i1 (some v1) := List.set_comm _ _ hne
  rw [e]
  exact k1 own6 _ _ _ q2.2 (ev5.trans ev6) rep6
end
end Kf

set_option Elab.async false
set_option linter.all false
set_option maxRecDepth 100000
set_option maxHeartbeats 2000000
namespace Kf
open PySem PySem.Spec PyProof.Rows L2 LamX NdefX
/-! ## sorted of a list of texts -/
def gSortS (ds : List PyData) (k : Rv → Prop) : Prop := match ds with
  | [.list es] => match strsQ es with
    | some xs => xs.length < 64 ∧ ∀ ys : List Str, ys.Perm xs → sortedS ys = true → k (.o (.list (ys.map .str)))
    | none => False
  | _ => False
theorem dx_strs {K : KW} {S : Hp} : ∀ ys : List Str, DxAll K S (ys.map V.str) (ys.map .str)
  | [] => .nil
  | s :: r => .cons (.str s) (dx_strs r)
theorem cg_sortS {B : Bas} : CallG B (rSortedS B.K.K) gSortS := fun S H vs ds k Q s hall g f => by
  rcases ds with _ | ⟨d, _ | ⟨d2, r⟩⟩
  · exact g.elim
  · obtain ⟨v, rfl, hd⟩ := cg_one hall
    cases hd with
    | @lst a xs es h r =>
      have g : (match strsQ es with | some xs => xs.length < 64 ∧ ∀ ys : List Str, ys.Perm xs → sortedS ys = true → k (.o (.list (ys.map .str))) | none => False) := g
      cases e : strsQ es with
      | none => rw [e] at g; exact g.elim
      | some zs =>
        rw [e] at g
        have ex := strsQ_da r e
        subst ex
        exact ⟨a, zs, rfl, sqL_sub s h, g.1, fun ys p hp hs np => fin_l s f (g.2 ys hp hs) (dx_strs ys) p np⟩
    | _ => exact g.elim
  · cases d <;> exact g.elim
end Kf

set_option Elab.async false
set_option linter.all false
set_option maxRecDepth 100000
set_option maxHeartbeats 2000000
namespace Kf
open PySem PySem.Spec PyProof.Rows L2 LamX NdefX
/-! ## e is None, of any value -/
def dIsNo (neg : Bool) (te : TV) : TV := fun E R => te E fun r E1 => match r with
  | .d .none => R (.d (.bool (!neg))) E1
  | .a φ => (∃ K C fs, φ = XA K C fs) ∧ R (.d (.bool neg)) E1
  | _ => R (.d (.bool neg)) E1
section
variable {X : Cx} {B : Bas} {e : Expr} {te : TV} {j : Nat} {pos pos' : Pos}
theorem isNoE {neg : Bool} {σ : L2.St} {H : Hp} {Q : VK} (hq : liftE B (dIsNo neg te) σ H Q) : liftE B te σ H fun x H1 => Q (.bl (if neg then !decide (x = .non) else decide (x = .non))) H1 := by
  obtain ⟨own, E, R, rep, ht, k⟩ := hq
  refine ⟨own, E, _, rep, ht, fun r E1 own1 v H1 q1 ev1 ra rep1 => ?_⟩
  have no : v ≠ .non → R (.d (.bool neg)) E1 → Q (.bl (if neg then !decide (v = .non) else decide (v = .non))) H1 := fun hv q => by
    have e : (if neg then !decide (v = .non) else decide (v = .non)) = neg := by
      rw [decide_eq_false hv]
      cases neg <;> rfl
    rw [e]
    exact k (.d (.bool neg)) E1 own1 _ H1 q ev1 (.bl neg) rep1
  cases r with
  | d x =>
    cases (show Dx B.K (hid own1 H1) v x from ra) with
    | non =>
      have e : (if neg then !decide (V.non = V.non) else decide (V.non = V.non)) = !neg := by cases neg <;> rfl
      show Q (.bl (if neg then !decide (V.non = V.non) else decide (V.non = V.non))) H1
      rw [e]
      exact k (.d (.bool (!neg))) E1 own1 _ H1 q1 ev1 (.bl (!neg)) rep1
    | bl b => exact no nofun q1
    | int i => exact no nofun q1
    | str z => exact no nofun q1
    | lst h r => exact no nofun q1
    | tup h r => exact no nofun q1
    | dct h n r => exact no nofun q1
    | dcn h ne n r => exact no nofun q1
  | o x =>
    obtain ⟨p, rfl, _⟩ := ra
    exact no nofun q1
  | a φ =>
    obtain ⟨⟨K, C, fs, rfl⟩, q1⟩ := q1
    obtain ⟨a, d, rfl, _⟩ := (show RvS B.K B.W (hid own1 H1) v (.a (XA K C fs)) from ra) _ (ExtN.refl _)
    exact no nofun q1
  | ob C fs =>
    obtain ⟨x, dx, vs, rfl, _⟩ := ra
    exact no nofun q1
  | m c =>
    obtain ⟨rfl, _⟩ := ra
    exact no nofun q1
theorem isNo1 {σ : L2.St} {H : Hp} {Q : VK} (hq : liftE B (dIsNo false te) σ H Q) : tOp (fun x y H Q => y = V.non ∧ Q (.bl (decide (x = .non))) H) (liftE B te) (tC .non) σ H Q := by
  obtain ⟨own, E, R, rep, ht, k⟩ := isNoE hq
  exact ⟨own, E, R, rep, ht, fun r E1 own1 v H1 q1 ev1 ra rep1 => ⟨rfl, k r E1 own1 v H1 q1 ev1 ra rep1⟩⟩
theorem isNo2 {σ : L2.St} {H : Hp} {Q : VK} (hq : liftE B (dIsNo true te) σ H Q) : tOp (fun x y H Q => y = V.non ∧ Q (.bl (!decide (x = .non))) H) (liftE B te) (tC .non) σ H Q := by
  obtain ⟨own, E, R, rep, ht, k⟩ := isNoE hq
  exact ⟨own, E, R, rep, ht, fun r E1 own1 v H1 q1 ev1 ra rep1 => ⟨rfl, k r E1 own1 v H1 q1 ev1 ra rep1⟩⟩
theorem ev_isN (he : PE X e (liftE B te)) : PE X (.Compare e [.Is] [.Constant .none j pos'] pos) (liftE B (dIsNo false te)) := PE_mono (pe_cmpR op_isN he pe_non rfl) fun _ _ _ => isNo1
theorem et_isN (he : PE X e (liftE B te)) : PT X (.Compare e [.Is] [.Constant .none j pos'] pos) (liftT B (dTb (dIsNo false te))) := PT_mono (pt_cmpR op_isN he pe_non rfl) fun _ _ _ => testE fun _ => isNo1
theorem ev_isntN (he : PE X e (liftE B te)) : PE X (.Compare e [.IsNot] [.Constant .none j pos'] pos) (liftE B (dIsNo true te)) := PE_mono (pe_cmpR op_notN he pe_non rfl) fun _ _ _ => isNo2
theorem et_isntN (he : PE X e (liftE B te)) : PT X (.Compare e [.IsNot] [.Constant .none j pos'] pos) (liftT B (dTb (dIsNo true te))) := PT_mono (pt_cmpR op_notN he pe_non rfl) fun _ _ _ => testE fun _ => isNo2
end
end Kf
namespace Kf
open PySem PySem.Spec PyProof.Rows L2 LamX NdefX
/-- an error of the class D: is it a C2 -/
def isOkX (K : KW) (C2 : Addr) : Addr → Bool → Prop := fun D b => ExcC K.K D ∧ PySem.W.kitOne K.K (.ref D) (.ref C2) = some b
end Kf

set_option Elab.async false
set_option linter.all false
set_option maxRecDepth 100000
set_option maxHeartbeats 2000000
namespace Kf
open PySem PySem.Spec PyProof.Rows L2 LamX NdefX TL
/-! ## the end: law is called where no guard stands -/
abbrev nilTab : Obj := ⟨.none, none, .fields #[], #[]⟩
/-- tracked at first: the script, if it is no object of the frame, and the tables -/
def hp0 (ts : List Addr) (a : Addr) (own : Option HO) : Hp := fun b => if b = a then own else if b ∈ ts then some (.tbl #[]) else none
section
variable {ts : List Addr} {a b : Addr} {own : Option HO}
theorem hp0_a : hp0 ts a own a = own := if_pos rfl
theorem hp0_t (h : b ∈ ts) (n : b ≠ a) : hp0 ts a own b = some (.tbl #[]) := (if_neg n).trans (if_pos h)
theorem hp0_at {u : HO} (h : hp0 ts a own b = some u) : (b = a ∧ own = some u) ∨ (b ≠ a ∧ b ∈ ts ∧ u = .tbl #[]) := by
  unfold hp0 at h
  split at h
  · rename_i e
    exact .inl ⟨e, h⟩
  · rename_i e
    split at h
    · rename_i m
      exact .inr ⟨e, m, (Option.some.inj h).symm⟩
    · cases h
theorem hp0_some (h : hp0 ts a own b ≠ none) : (b = a ∧ own ≠ none) ∨ (b ≠ a ∧ b ∈ ts) := by
  cases e : hp0 ts a own b with
  | none => exact absurd e h
  | some u =>
    rcases hp0_at e with ⟨e1, e2⟩ | ⟨e1, e2, _⟩
    · exact .inl ⟨e1, by rw [e2]; exact Option.some_ne_none u⟩
    · exact .inr ⟨e1, e2⟩
end
/-- what the law's proof gives to the end -/
def GiveG (l : PySem.W.OpenLaw) (w : World) (K : PySem.W.Frag) (k n : Nat) (x : Str) (mg : Str → Option Value) (fa : Addr) (h : Heap) : Prop :=
  ∃ (fd : FuncData) (ct : List (Addr × Addr)) (sp : Sp),
    (∀ q ∈ ct, PySem.W.CodeHd h q.1 q.2 ∧ h.get? q.2 = some { cls := .none, data := .fields #[] } ∧ K.lookup q.2 = none) ∧
    (∀ (st : Shared) (u : Value), BindsTo st fd ⟨[u], []⟩ [(x, u)]) ∧
    (∀ base : Heap, base.Ns mainGlobals mg → K.In base → (∀ q ∈ ct, TabB base mg q.1 q.2) → FnOkG l.prog w K mg base k fa fd [x] sp) ∧
    ∀ (H : Hp) (a : Addr) (ns : List Int), SqL K H a (ns.map V.int) → ns.length ≤ n → (∀ q ∈ ct, H q.2 = some (.tbl #[])) → sp [.ref a] H (fun v _ => v = .bl true) fun _ _ _ => False
theorem walkG {l : PySem.W.OpenLaw} {n k : Nat} {q : Program} {loose : List Str} {XP : (Str → Option Value) → Heap → Prop} {YP : World → Heap → Prop} {d : DefRec} {Kf : Params → PySem.W.Frag} {x : Str} (hdf : d.params.defaults = []) (hn : l.most = some n) (hn2 : n ≤ sizeLine) (hr : Room k callerA)
    (hY : ∀ (w : World) (h : Heap), YP w h → (Kf w.params).In h) (give : ∀ (w : World) (mg : Str → Option Value) (fa : Addr) (h : Heap), YP w h → h.Ns mainGlobals mg → mg d.name = some (.ref fa) → GiveG l w (Kf w.params) k n x mg fa h) :
    PySem.W.WalkO q loose XP YP l.row.toRowW d [] (fun f vs => PySem.call f vs) := by
  refine Att.attach_callB hn hdf fun w s₀ s₁ mg mb fa o pm cd doc a vs ns G Y ho hd hcd hmg scr hall hlen hbits hgen => ?_
  have inK := hY w _ Y
  obtain ⟨K, eK⟩ : ∃ K, K = Kf w.params := ⟨_, rfl⟩
  obtain ⟨fd, ct, sp, tabs, hbind, hfn, hsp⟩ := give w mg fa _ Y G.T.g hmg
  rw [← eK] at inK tabs hfn hsp
  have rv := vals_ints hall
  have lenV := hall.length
  have lenO : ns.length ≤ sizeLine := Nat.le_trans hlen hn2
  obtain ⟨ts, ets⟩ : ∃ ts, ts = ct.map (·.2) := ⟨_, rfl⟩
  have inT : ∀ q ∈ ct, q.2 ∈ ts := fun q h => by rw [ets]; exact List.mem_map.mpr ⟨q, h, rfl⟩
  have ofT : ∀ b ∈ ts, ∃ q ∈ ct, q.2 = b := fun b h => by rw [ets] at h; exact List.mem_map.mp h
  have tabAt : ∀ b ∈ ts, s₁.heap.get? b = some { cls := .none, data := .fields #[] } := fun b h => by
    obtain ⟨q, hq, rfl⟩ := ofT b h
    exact (tabs q hq).2.1
  have tNa : ∀ b ∈ ts, b ≠ a := fun b h e => by
    have z := tabAt b h
    rw [e, scr] at z
    have z2 := congrArg Obj.data (Option.some.inj z)
    cases z2
  -- the script's place
  obtain ⟨own, own1, own2, own3⟩ : ∃ own : Option HO, (∀ u, own = some u → ∃ ob : Obj, u = .frz ob (.lst (ns.map V.int)) ∧ ob = { cls := .type "list", data := .seq vs.toArray }) ∧ (∀ H : Hp, H a = own → SqL K H a (ns.map V.int)) ∧ (own ≠ none → K.lookup a = none) := by
    cases lk : K.lookup a with
    | none =>
      refine ⟨some (.frz { cls := .type "list", data := .seq vs.toArray } (.lst (ns.map V.int))), fun u e => ⟨_, (Option.some.inj e).symm, rfl⟩, fun H e => .inl (.inr ⟨_, e⟩), fun _ => rfl⟩
    | some ob =>
      have e := inK a ob lk
      rw [scr] at e
      cases e
      exact ⟨none, fun u e => (by cases e), fun H _ => .inr ⟨_, vs.toArray, _, lk, rfl, rfl, rfl, by rw [List.size_toArray, lenV]; exact lenO, by simpa using rv⟩, fun z => absurd rfl z⟩
  obtain ⟨H, eH⟩ : ∃ H, H = hp0 ts a own := ⟨_, rfl⟩
  have HT : ∀ q ∈ ct, H q.2 = some (.tbl #[]) := fun q h => by rw [eH]; exact hp0_t (inT q h) (tNa _ (inT q h))
  have HS : SqL K H a (ns.map V.int) := own2 H (by rw [eH]; exact hp0_a)
  have hok : HOk l.prog w H s₁.heap := fun b u e => by
    rw [eH] at e
    rcases hp0_at e with ⟨rfl, e2⟩ | ⟨_, m, rfl⟩
    · obtain ⟨ob, rfl, rfl⟩ := own1 u e2
      exact ⟨scr, by rw [List.length_map]; exact lenO, vs, _, rv, scr⟩
    · exact tabAt b m
  -- what is neither list nor empty table is not tracked
  have untr : ∀ {b : Addr} {ob : Obj}, s₁.heap.get? b = some ob → (∀ vs n, ob.data ≠ .seq vs n) → ob.data ≠ .fields #[] → H b = none := fun {b ob} e n1 n2 => by
    by_cases z : H b = none
    · exact z
    · rw [eH] at z
      rcases hp0_some z with ⟨rfl, _⟩ | ⟨_, m⟩
      · rw [scr] at e
        cases e
        exact absurd rfl (n1 _ _)
      · rw [tabAt b m] at e
        cases e
        exact absurd rfl n2
  have hid : ∀ {b : Addr} {ob : Obj}, s₁.heap.get? b = some ob → (∀ vs n, ob.data ≠ .seq vs n) → ob.data ≠ .fields #[] → (hidT s₁.heap H).get? b = some ob := fun e n1 n2 => hidT_get e (untr e n1 n2)
  have nsH : ∀ {b : Addr} {M : Str → Option Value}, s₁.heap.Ns b M → (hidT s₁.heap H).Ns b M := fun ⟨ob, es, ep, e, dd, r⟩ => ⟨ob, es, ep, hid e (by rw [dd]; intro _ _ z; cases z) (by rw [dd]; intro z; cases z), dd, r⟩
  have inH : K.In (hidT s₁.heap H) := fun b ob e => hidT_get (inK b ob e) (by
    by_cases z : H b = none
    · exact z
    · rw [eH] at z
      rcases hp0_some z with ⟨rfl, no⟩ | ⟨_, m⟩
      · rw [own3 no] at e
        cases e
      · obtain ⟨q, hq, rfl⟩ := ofT b m
        rw [(tabs q hq).2.2] at e
        cases e)
  obtain ⟨mc, lim1, lim2⟩ := G.T.nolimit
  have hM : L2.Mod K mg (hidT s₁.heap H) := ⟨inH, nsH G.T.g, ⟨mb, nsH G.T.b, G.T.builtins⟩, mc, nsH lim1, lim2⟩
  have tb : ∀ q ∈ ct, TabB (hidT s₁.heap H) mg q.1 q.2 := fun q hq => by
    obtain ⟨cq, tq, _⟩ := tabs q hq
    refine ⟨?_, ?_, fun z => ?_⟩
    · obtain ⟨ob, us, file, tf, flags, tg, inF, text, tt, e1, r1, r2, r3, rest⟩ := cq
      refine ⟨ob, us, file, tf, flags, tg, inF, text, tt, hid e1 (fun _ _ z => ?_) (fun z => ?_), r1, r2, r3, rest⟩
      · rw [r2] at z
        cases z
      · rw [r2] at z
        cases z
        simp at r3
    · obtain ⟨bm, ob, b1, b2, b3, b4, b5, b6⟩ := G.T.bmain
      refine ⟨bm, ob, b1, b2, fun z => ?_, fun z => ?_, hid b3 (by rw [b6]; intro _ _ z; cases z) (by rw [b6]; intro z; cases z), b4, b5, b6⟩
      · obtain ⟨og, es, ep, e, dd, _⟩ := G.T.g
        rw [z, e] at b3
        cases b3
        rw [dd] at b6
        cases b6
      · rw [z, tq] at b3
        cases b3
        cases b6
    · obtain ⟨og, es, ep, e, dd, _⟩ := G.T.g
      rw [z, tq] at e
      cases e
      cases dd
  have e0 : Env0 l.prog w K mg (hidT s₁.heap H) callerA [] s₁ H := ⟨rfl, hM, fun b ob e => of_hidT e, Nat.le_of_eq (hidT_size _ _), trivial, (fun b h => by cases h), hok, .of_eq hgen⟩
  have run := (hfn _ (nsH G.T.g) inH tb).run callerA [] s₁ H ⟨[.ref a], []⟩ [.ref a] [.ref a] _ _ hr rfl e0 (hbind s₁ (.ref a)) (.cons rfl .nil) (hsp H a ns HS hlen HT)
  refine codeAny_mono run fun r s' post => ?_
  match r, post with
  | .error e, z => exact False.elim z
  | .ok .next, z => exact False.elim z
  | .ok .brk, z => exact False.elim z
  | .ok .cont, z => exact False.elim z
  | .ok (.ret u), z =>
    obtain ⟨v, H', os, bare, un, hok', r', rfl⟩ := z
    obtain rfl : u = Value.bool true := r'
    have kept : ∀ b ob, ¬ b ∈ ts → s₁.heap.get? b = some ob → s'.heap.get? b = some ob := fun b ob nb e => by
      cases hb : H b with
      | none => exact un.keep b ob e hb (fun z => by cases z) (by simp)
      | some u =>
        have hb' := hb
        rw [eH] at hb'
        rcases hp0_at hb' with ⟨rfl, e2⟩ | ⟨_, m, _⟩
        · obtain ⟨o2, rfl, rfl⟩ := own1 u e2
          have later := (hok' b _ (un.frzs b _ _ hb)).1
          rw [scr] at e
          cases e
          exact later
        · exact absurd m nb
    have grows : ∀ b ∈ ts, ∃ more : Array Value, s'.heap.get? b = some { cls := .none, data := .fields more } := fun b m => by
      obtain ⟨q, hq, rfl⟩ := ofT b m
      obtain ⟨more, z⟩ := un.tbls q.2 #[] (HT q hq)
      exact ⟨_, hok' q.2 _ z⟩
    refine ⟨rfl, ⟨fun b ob e => ?_, fun b ob e => ?_⟩, os, bare⟩
    · by_cases m : b ∈ ts
      · obtain ⟨more, e2⟩ := grows b m
        obtain ⟨q, hq, rfl⟩ := ofT b m
        rw [tabAt _ m] at e
        cases e
        exact .inr (.inl ⟨((tabs q hq).1.tab (tabs q hq).2.1).isCodeTable, rfl, #[], more, rfl, by rw [Array.empty_append]; exact e2⟩)
      · exact .inl (kept b ob m e)
    · by_cases m : b ∈ ts
      · obtain ⟨more, e2⟩ := grows b m
        exact ⟨_, e2⟩
      · exact ⟨ob, kept b ob m e⟩
/-! ## what the top has left -/
structure DefAt (K : PySem.W.Frag) (x : Str) (st : Stmt) : Prop where
  ex : ∃ f fd, PySem.W.nsIn K mainGlobals x = some (some (.ref f)) ∧ L2.Fun K x x st f fd
section
variable {K : PySem.W.Frag} {x qual : Str} {st : Stmt} {f : Addr} {od an : Option Addr} {sl : Array (Option Value)} {oc kV dc pm cd ct : Value}
theorem DefAt.of (a : PySem.W.nsIn K mainGlobals x = some (some (.ref f))) (l : K.lookup f = some ⟨oc, od, .func (PySem.W.fnOf x x (defArgs st) (defBody st) (defScope st) .none kV dc pm an cd ct), sl⟩) (c : PySem.W.codeIn K cd x = true) (k : PySem.W.keepIn K (.ref f) = true) : DefAt K x st := ⟨f, _, a, fun_mk l c k⟩
end
theorem DefAt.cal {P : Program} {w : World} {K : PySem.W.Frag} {mg : Str → Option Value} {base h : Heap} {k : Nat} {x : Str} {st : Stmt} {ps : List Str} {sp : Sp} (D : DefAt K x st) (X : K.In h) (G : h.Ns mainGlobals mg)
    (hb : ∀ (kV doc pm : Value) (an : Option Addr) (cdv ct : Value) (us : List Value), us.length = ps.length → bindArgs (PySem.W.fnOf x x (defArgs st) (defBody st) (defScope st) .none kV doc pm an cdv ct) ⟨us, []⟩ = pure (ps.zip us))
    (ok : ∀ f fd, L2.Fun K x x st f fd → FnOk P w K mg base CX0 k f fd ps sp) : Cal P w K mg base k x ps sp := by
  obtain ⟨f, fd, a, F⟩ := D.ex
  exact ⟨f, fd, PySem.W.mg_of X G a, F.kp, F.binds hb, ok f fd F⟩
theorem constAt {K : PySem.W.Frag} {x : Str} {v : V} {u : Value} (a : PySem.W.nsIn K mainGlobals x = some (some u)) (r : RelV v u) : ∃ u, PySem.W.nsIn K mainGlobals x = some (some u) ∧ RelV v u := ⟨u, a, r⟩
/-- a property whose getter hands back a field -/
structure GetAt (K : PySem.W.Frag) (C : Addr) (x qual fl : Str) (st : Stmt) : Prop where
  ex : ∃ (p g : Addr) (oc : Value) (od : Option Addr) (kV doc pm : Value) (an : Option Addr) (cdv ct : Value) (osl : Array (Option Value)), PropOf K C x p g ∧
    K.lookup g = some ⟨oc, od, .func (PySem.W.fnOf x qual (defArgs st) (defBody st) (defScope st) .none kV doc pm an cdv ct), osl⟩ ∧ PySem.W.codeIn K cdv qual = true
theorem GetAt.of {K : PySem.W.Frag} {C p g : Addr} {x qual fl : Str} {st : Stmt} {oc : Value} {od : Option Addr} {kV doc pm : Value} {an : Option Addr} {cdv ct : Value} {osl : Array (Option Value)} {rest : List Value} (a : PySem.W.findIn K (.ref C) x = some (some (.ref p))) (b : PySem.W.specialIn K (.ref p) "__get__" = some (some (.builtin "property.__get__")))
    (c : PySem.W.takesIn K (.ref p) = some true) (d : PySem.W.recIn K p "property" = some (.ref g :: rest)) (l : K.lookup g = some ⟨oc, od, .func (PySem.W.fnOf x qual (defArgs st) (defBody st) (defScope st) .none kV doc pm an cdv ct), osl⟩) (e : PySem.W.codeIn K cdv qual = true) : GetAt K C x qual fl st :=
  ⟨p, g, oc, od, kV, doc, pm, an, cdv, ct, osl, ⟨a, b, c, _, d⟩, l, e⟩
/-- a def with a lambda: its code object, and the table that stands there -/
structure LmdAt (K : PySem.W.Frag) (x : Str) (st : Stmt) (c P : Addr) : Prop where
  ex : ∃ f fd, PySem.W.nsIn K mainGlobals x = some (some (.ref f)) ∧ PySem.W.keepIn K (.ref f) = true ∧ FunC K x x st f fd c ∧ (∀ {ps : List Str}, (∀ (kV doc pm : Value) (an : Option Addr) (cdv ct : Value) (us : List Value), us.length = ps.length → bindArgs (PySem.W.fnOf x x (defArgs st) (defBody st) (defScope st) .none kV doc pm an cdv ct) ⟨us, []⟩ = pure (ps.zip us)) → Binds K fd ps [])
  th : PySem.W.codeHdIn K c P = true
  tn : K.lookup P = none
theorem LmdAt.of {K : PySem.W.Frag} {x : Str} {st : Stmt} {c P f : Addr} {od an : Option Addr} {sl : Array (Option Value)} {oc kV dc pm ct : Value} (a : PySem.W.nsIn K mainGlobals x = some (some (.ref f))) (l : K.lookup f = some ⟨oc, od, .func (PySem.W.fnOf x x (defArgs st) (defBody st) (defScope st) .none kV dc pm an (.ref c) ct), sl⟩) (e : PySem.W.codeIn K (.ref c) x = true) (k : PySem.W.keepIn K (.ref f) = true)
    (th : PySem.W.codeHdIn K c P = true) (tn : K.lookup P = none) : LmdAt K x st c P := ⟨⟨f, _, a, k, ⟨oc, od, kV, dc, pm, an, ct, sl, rfl, l, e⟩, fun hb => .all (hb kV dc pm an (.ref c) ct)⟩, th, tn⟩
/-- a method of a class -/
structure MetAt (K : PySem.W.Frag) (C : Addr) (m qual : Str) (st : Stmt) : Prop where
  ex : ∃ f fd, Meth K C m f ∧ L2.Fun K m qual st f fd
theorem MetAt.of {K : PySem.W.Frag} {C : Addr} {m qual : Str} {st : Stmt} {f : Addr} {od an : Option Addr} {sl : Array (Option Value)} {oc kV dc pm cd ct : Value} (a : PySem.W.findIn K (.ref C) m = some (some (.ref f))) (i : PySem.W.isFn K (.ref f) = true) (l : K.lookup f = some ⟨oc, od, .func (PySem.W.fnOf m qual (defArgs st) (defBody st) (defScope st) .none kV dc pm an cd ct), sl⟩) (e : PySem.W.codeIn K cd qual = true) (k : PySem.W.keepIn K (.ref f) = true) : MetAt K C m qual st := ⟨f, _, ⟨a, i, k⟩, fun_mk l e k⟩
/-- a class that is made by its name -/
structure InitAt (K : PySem.W.Frag) (C : Addr) (qual : Str) (st : Stmt) : Prop where
  ex : ∃ f fd, Mk K C f ∧ L2.Fun K "__init__" qual st f fd
theorem InitAt.of {K : PySem.W.Frag} {C : Addr} {qual : Str} {st : Stmt} {f : Addr} {od an : Option Addr} {sl : Array (Option Value)} {oc kV dc pm cd ct : Value} (m : PySem.W.makesIn K C = true) (a : PySem.W.findIn K (.ref C) "__init__" = some (some (.ref f))) (i : PySem.W.isFn K (.ref f) = true) (kc : PySem.W.keepIn K (.ref C) = true) (l : K.lookup f = some ⟨oc, od, .func (PySem.W.fnOf "__init__" qual (defArgs st) (defBody st) (defScope st) .none kV dc pm an cd ct), sl⟩) (e : PySem.W.codeIn K cd qual = true) (k : PySem.W.keepIn K (.ref f) = true) : InitAt K C qual st := ⟨f, _, ⟨m, a, i, kc⟩, fun_mk l e k⟩

/-! ### .. as promises of the readings -/
theorem MetAt.mtx {P : Program} {w : World} {K : PySem.W.Frag} {mg : Str → Option Value} {base : Heap} {C : Addr} {m qual : Str} {st : Stmt} {k : Nat} {ps : List Str} {sp : Sp} (M : MetAt K C m qual st) (c : Cls K C)
    (hb : ∀ (kV doc pm : Value) (an : Option Addr) (cdv ct : Value) (us : List Value), us.length = ps.length → bindArgs (PySem.W.fnOf m qual (defArgs st) (defBody st) (defScope st) .none kV doc pm an cdv ct) ⟨us, []⟩ = pure (ps.zip us))
    (ok : ∀ f fd, L2.Fun K m qual st f fd → FnOk P w K mg base (L2.CX P w) k f fd ps sp) : MtX P w K mg base k C m sp := by
  obtain ⟨f, fd, me, F⟩ := M.ex
  exact ⟨⟨f, fd, ps, c, me, ok f fd F, F.binds hb⟩⟩
/-- keywords in the order of the parameters, behind the first ones -/
theorem kbn {K : PySem.W.Frag} {x qual : Str} {st : Stmt} {f : Addr} {fd : FuncData} {ps ks : List Str} {n : Nat} (F : L2.Fun K x qual st f fd) (hl : ps.length = n + ks.length)
    (hb : ∀ (kV doc pm : Value) (an : Option Addr) (cdv ct : Value) (us ws : List Value), us.length = n → ws.length = ks.length → bindArgs (PySem.W.fnOf x qual (defArgs st) (defBody st) (defScope st) .none kV doc pm an cdv ct) ⟨us, ks.zip ws⟩ = pure (ps.zip (us ++ ws))) : KBn K fd ps n ks (fun us ws => us ++ ws) (fun vs zs => vs ++ zs) := by
  obtain ⟨oc, od, kV, doc, pm, an, cdv, ct, osl, rfl, lk, hcd⟩ := F.ex
  exact ⟨fun s us ws _ l1 l2 => .of_eq (hb _ _ _ _ _ _ us ws l1 l2), fun r1 r2 => r1.append r2⟩
theorem MetAt.mtxk {P : Program} {w : World} {K : PySem.W.Frag} {mg : Str → Option Value} {base : Heap} {C : Addr} {m qual : Str} {st : Stmt} {k : Nat} {ps ks : List Str} {sp : Sp} (M : MetAt K C m qual st) (c : Cls K C) (hl : ps.length = 1 + ks.length)
    (hb : ∀ (kV doc pm : Value) (an : Option Addr) (cdv ct : Value) (us ws : List Value), us.length = 1 → ws.length = ks.length → bindArgs (PySem.W.fnOf m qual (defArgs st) (defBody st) (defScope st) .none kV doc pm an cdv ct) ⟨us, ks.zip ws⟩ = pure (ps.zip (us ++ ws)))
    (ok : ∀ f fd, L2.Fun K m qual st f fd → FnOk P w K mg base (L2.CX P w) k f fd ps sp) : MtXK P w K mg base k C m ks sp := by
  obtain ⟨f, fd, me, F⟩ := M.ex
  exact ⟨⟨f, fd, ps, _, c, me, ok f fd F, kbn F hl hb⟩⟩
theorem InitAt.mkx {P : Program} {w : World} {K : PySem.W.Frag} {mg : Str → Option Value} {base : Heap} {C : Addr} {x qual : Str} {st : Stmt} {k : Nat} {ps : List Str} {sp : Sp} (M : InitAt K C qual st) (hm : mg x = some (.ref C))
    (hb : ∀ (kV doc pm : Value) (an : Option Addr) (cdv ct : Value) (us : List Value), us.length = ps.length → bindArgs (PySem.W.fnOf "__init__" qual (defArgs st) (defBody st) (defScope st) .none kV doc pm an cdv ct) ⟨us, []⟩ = pure (ps.zip us))
    (ok : ∀ f fd, L2.Fun K "__init__" qual st f fd → FnOk P w K mg base (L2.CX P w) k f fd ps sp) : MkX P w K mg base k x C ps sp := by
  obtain ⟨f, fd, me, F⟩ := M.ex
  exact ⟨⟨f, fd, me, hm, F.binds hb, ok f fd F⟩⟩
theorem InitAt.mkxk {P : Program} {w : World} {K : PySem.W.Frag} {mg : Str → Option Value} {base : Heap} {C : Addr} {x qual : Str} {st : Stmt} {k : Nat} {ps ks : List Str} {sp : Sp} (M : InitAt K C qual st) (hm : mg x = some (.ref C)) (hl : ps.length = 1 + ks.length)
    (hb : ∀ (kV doc pm : Value) (an : Option Addr) (cdv ct : Value) (us ws : List Value), us.length = 1 → ws.length = ks.length → bindArgs (PySem.W.fnOf "__init__" qual (defArgs st) (defBody st) (defScope st) .none kV doc pm an cdv ct) ⟨us, ks.zip ws⟩ = pure (ps.zip (us ++ ws)))
    (ok : ∀ f fd, L2.Fun K "__init__" qual st f fd → FnOk P w K mg base (L2.CX P w) k f fd ps sp) : MkXK P w K mg base k x C ks ps sp := by
  obtain ⟨f, fd, me, F⟩ := M.ex
  exact ⟨⟨f, fd, _, me, hm, kbn F hl hb, ok f fd F⟩⟩
theorem DefAt.calG {P : Program} {w : World} {K : PySem.W.Frag} {mg : Str → Option Value} {base h : Heap} {k : Nat} {x : Str} {st : Stmt} {ps : List Str} {sp : Sp} (D : DefAt K x st) (X : K.In h) (G : h.Ns mainGlobals mg)
    (hb : ∀ (kV doc pm : Value) (an : Option Addr) (cdv ct : Value) (us : List Value), us.length = ps.length → bindArgs (PySem.W.fnOf x x (defArgs st) (defBody st) (defScope st) .none kV doc pm an cdv ct) ⟨us, []⟩ = pure (ps.zip us))
    (ok : ∀ f fd, L2.Fun K x x st f fd → FnOkG P w K mg base k f fd ps sp) : CalG P w K mg base k x ps sp := by
  obtain ⟨f, fd, a, F⟩ := D.ex
  exact ⟨f, fd, PySem.W.mg_of X G a, F.kp, F.binds hb, ok f fd F⟩
theorem DefAt.calX {P : Program} {w : World} {K : PySem.W.Frag} {mg : Str → Option Value} {base h : Heap} {k : Nat} {x : Str} {st : Stmt} {ps : List Str} {sp : Sp} (D : DefAt K x st) (X : K.In h) (G : h.Ns mainGlobals mg)
    (hb : ∀ (kV doc pm : Value) (an : Option Addr) (cdv ct : Value) (us : List Value), us.length = ps.length → bindArgs (PySem.W.fnOf x x (defArgs st) (defBody st) (defScope st) .none kV doc pm an cdv ct) ⟨us, []⟩ = pure (ps.zip us))
    (ok : ∀ f fd, L2.Fun K x x st f fd → FnOk P w K mg base (L2.CX P w) k f fd ps sp) : CalX P w K mg base k x ps sp := by
  obtain ⟨f, fd, a, F⟩ := D.ex
  exact ⟨⟨f, fd, PySem.W.mg_of X G a, F.kp, F.binds hb, ok f fd F⟩⟩
/-- an error class without a field of its own -/
structure ErrN (K : PySem.W.Frag) (C : Addr) : Prop where
  q : PySem.W.excIn K C [.type "ValueError", .type "Exception", .type "BaseException", .type "object"] "ValueError.__new__" = true
  kp : PySem.W.keepIn K (.ref C) = true
  sb : PySem.W.subIn K (.ref C) (.type "BaseException") = some true
  ty : PySem.W.typeIn K (.ref C) = some (.type "type")
theorem ErrN.ftn {K : PySem.W.Frag} {mg : Str → Option Value} {x : Str} {C : Addr} (h : ErrN K C) (hm : mg x = some (.ref C)) : FtN K mg x C := ⟨⟨_, _, _, _, PySem.F.excBase_ValueError, h.q, hm, h.kp, h.sb, h.ty⟩⟩
/-- what isinstance asks of an error -/
structure IsC (K : PySem.W.Frag) (C D : Addr) (b : Bool) : Prop where
  ha : PySem.W.findIn K (.ref C) "__class__" = some (some (.builtin "object.__class__"))
  hn : PySem.W.specialIn K (.builtin "object.__class__") "__get__" = some (some (.builtin "getset_descriptor.__get__"))
  ht : PySem.W.takesIn K (.builtin "object.__class__") = some true
  hm : PySem.W.mroIn K C (.type "object") = some true
  kt : PySem.W.kitOne K (.ref C) (.ref D) = some b
theorem IsC.ok {K : KW} {C D : Addr} {b : Bool} (h : IsC K.K C D b) (x : XfC K.K C) : isOkX K D C b := ⟨⟨x.ga, x.gg, x.exC, x.hdC, h.ha, h.hn, h.ht, h.hm⟩, h.kt⟩
end Kf

set_option Elab.async false
set_option linter.all false
set_option maxRecDepth 100000
set_option maxHeartbeats 2000000
namespace Kf
open PySem PySem.Spec PyProof.Rows L2
def topS (i : Nat) : Stmt := PySem.Challenge.pw_faultorder_k21_machines_played.main.body.getD i (.Pass ⟨0, 0, 0, 0⟩)
abbrev s__wall : Stmt := topS 0
abbrev s_is_name : Stmt := topS 9
abbrev s_is_integer : Stmt := topS 10
abbrev s_is_list : Stmt := topS 11
abbrev s_is_event : Stmt := topS 13
abbrev s_are_ascending : Stmt := topS 14
abbrev s_are_names : Stmt := topS 15
abbrev s_is_step : Stmt := topS 16
abbrev s_is_row : Stmt := topS 17
abbrev s_are_rows : Stmt := topS 18
abbrev s__law_begin : Stmt := topS 21
abbrev s__law_take : Stmt := topS 22
abbrev s__law_pick : Stmt := topS 23
abbrev s__law_words : Stmt := topS 24
abbrev s__law_engine : Stmt := topS 25
abbrev s__law_due : Stmt := topS 26
abbrev s__law_told : Stmt := topS 27
abbrev s__law_story : Stmt := topS 28
abbrev s_law : Stmt := topS 29
abbrev s_NoEvent___init__ : Stmt := inClass (topS 3) 0
abbrev s_Machine___init__ : Stmt := inClass (topS 19) 0
abbrev s_Machine___eq__ : Stmt := inClass (topS 19) 1
abbrev s_Machine___len__ : Stmt := inClass (topS 19) 2
abbrev s_Machine_parts : Stmt := inClass (topS 19) 3
abbrev s_Machine_rows : Stmt := inClass (topS 19) 4
abbrev s_Machine_play : Stmt := inClass (topS 19) 5
abbrev s_Machine_smallest : Stmt := inClass (topS 19) 6
theorem sc__wall : FnScope ["k"] ["k"] (defScope s__wall) := ⟨rfl, rfl, rfl, by decide +kernel, rfl, by decide +kernel, by decide +kernel⟩
theorem sc_is_name : FnScope ["value", "letter"] ["value"] (defScope s_is_name) := ⟨rfl, rfl, rfl, by decide +kernel, rfl, by decide +kernel, by decide +kernel⟩
theorem sc_is_integer : FnScope ["value"] ["value"] (defScope s_is_integer) := ⟨rfl, rfl, rfl, by decide +kernel, rfl, by decide +kernel, by decide +kernel⟩
theorem sc_is_list : FnScope ["value"] ["value"] (defScope s_is_list) := ⟨rfl, rfl, rfl, by decide +kernel, rfl, by decide +kernel, by decide +kernel⟩
theorem sc_is_event : FnScope ["value", "parts"] ["value", "parts"] (defScope s_is_event) := ⟨rfl, rfl, rfl, by decide +kernel, rfl, by decide +kernel, by decide +kernel⟩
theorem sc_are_ascending : FnScope ["values", "at"] ["values"] (defScope s_are_ascending) := ⟨rfl, rfl, rfl, by decide +kernel, rfl, by decide +kernel, by decide +kernel⟩
theorem sc_are_names : FnScope ["value", "item"] ["value"] (defScope s_are_names) := ⟨rfl, rfl, rfl, by decide +kernel, rfl, by decide +kernel, by decide +kernel⟩
theorem sc_is_step : FnScope ["value", "parts", "many"] ["value", "parts", "many"] (defScope s_is_step) := ⟨rfl, rfl, rfl, by decide +kernel, rfl, by decide +kernel, by decide +kernel⟩
theorem sc_is_row : FnScope ["value", "parts", "many", "item", "event", "_"] ["value", "parts", "many"] (defScope s_is_row) := ⟨rfl, rfl, rfl, by decide +kernel, rfl, by decide +kernel, by decide +kernel⟩
theorem sc_are_rows : FnScope ["value", "parts", "item"] ["value", "parts"] (defScope s_are_rows) := ⟨rfl, rfl, rfl, by decide +kernel, rfl, by decide +kernel, by decide +kernel⟩
theorem sc__law_begin : FnScope ["script", "large", "cell"] ["script"] (defScope s__law_begin) := ⟨rfl, rfl, rfl, by decide +kernel, rfl, by decide +kernel, by decide +kernel⟩
theorem sc__law_take : FnScope ["draw", "size", "cell", "found"] ["draw", "size"] (defScope s__law_take) := ⟨rfl, rfl, rfl, by decide +kernel, rfl, by decide +kernel, by decide +kernel⟩
theorem sc__law_pick : FnScope ["draw", "some"] ["draw", "some"] (defScope s__law_pick) := ⟨rfl, rfl, rfl, by decide +kernel, rfl, by decide +kernel, by decide +kernel⟩
theorem sc__law_words : FnScope ["draw", "many", "menu", "found", "k", "word", "some", "j", "sign", "one"] ["draw", "many"] (defScope s__law_words) := ⟨rfl, rfl, rfl, by decide +kernel, rfl, by decide +kernel, by decide +kernel⟩
theorem sc__law_engine : FnScope ["draw", "most", "parts", "every_event", "many", "lists", "shapes", "spot", "moves", "part", "k", "event"] ["draw", "most"] (defScope s__law_engine) := ⟨rfl, rfl, rfl, by decide +kernel, rfl, by decide +kernel, by decide +kernel⟩
theorem sc__law_due : FnScope ["lists", "story", "found", "here", "spot", "event", "goals", "own", "to"] ["lists", "story"] (defScope s__law_due) := ⟨rfl, rfl, rfl, by decide +kernel, rfl, by decide +kernel, by decide +kernel⟩
theorem sc__law_told : FnScope ["work", "found", "error", "caught"] ["work"] (defScope s__law_told) := ⟨rfl, rfl, rfl, by decide +kernel, rfl, by decide +kernel, by decide +kernel⟩
theorem sc__law_story : FnScope ["draw", "parts", "lists", "found", "here", "k", "event"] ["draw", "parts", "lists"] (defScope s__law_story) := ⟨rfl, rfl, rfl, by decide +kernel, rfl, by decide +kernel, by decide +kernel⟩
theorem sc_law : FnScope ["script", "draw", "turn", "parts", "lists", "engine", "lap", "story", "told", "spot", "odd", "bad", "due"] ["script"] (defScope s_law) := ⟨rfl, rfl, rfl, by decide +kernel, rfl, by decide +kernel, by decide +kernel⟩
theorem sc_Machine___init__ : FnScope ["self", "parts", "rows"] ["self", "parts", "rows"] (defScope s_Machine___init__) := ⟨rfl, rfl, rfl, by decide +kernel, rfl, by decide +kernel, by decide +kernel⟩
theorem sc_Machine___eq__ : FnScope ["self", "other"] ["self", "other"] (defScope s_Machine___eq__) := ⟨rfl, rfl, rfl, by decide +kernel, rfl, by decide +kernel, by decide +kernel⟩
theorem sc_Machine___len__ : FnScope ["self"] ["self"] (defScope s_Machine___len__) := ⟨rfl, rfl, rfl, by decide +kernel, rfl, by decide +kernel, by decide +kernel⟩
theorem sc_Machine_parts : FnScope ["self"] ["self"] (defScope s_Machine_parts) := ⟨rfl, rfl, rfl, by decide +kernel, rfl, by decide +kernel, by decide +kernel⟩
theorem sc_Machine_rows : FnScope ["self"] ["self"] (defScope s_Machine_rows) := ⟨rfl, rfl, rfl, by decide +kernel, rfl, by decide +kernel, by decide +kernel⟩
theorem sc_Machine_play : FnScope ["self", "events", "row", "told", "at", "event", "indexes", "allowed", "index"] ["self", "events"] (defScope s_Machine_play) := ⟨rfl, rfl, rfl, by decide +kernel, rfl, by decide +kernel, by decide +kernel⟩
theorem sc_Machine_smallest : FnScope ["self"] ["self"] (defScope s_Machine_smallest) := ⟨rfl, rfl, rfl, by decide +kernel, rfl, by decide +kernel, by decide +kernel⟩
end Kf

set_option Elab.async false
set_option linter.all false
set_option maxRecDepth 100000
set_option maxHeartbeats 2000000
namespace Kf
open PySem PySem.Spec PyProof.Rows L2 LamX NdefX
/-! ## calls by keyword -/
structure CalK (P : Program) (w : World) (K : PySem.W.Frag) (mg : Str → Option Value) (base : Heap) (k : Nat) (x : Str) (ps ks : List Str) (gV : List V → List V → List V) (sp : Sp) : Prop where
  ex : ∃ f fd g, mg x = some (.ref f) ∧ PySem.W.keepIn K (.ref f) = true ∧ KBn K fd ps 0 ks g gV ∧ FnOk P w K mg base CX0 k f fd ps sp
section
variable {X : Cx} {B : Bas} {e : Expr} {t : TV} {ts : TVs} {pos p : Pos} {kws : List Keyword} {tk : TA}
theorem pe_callKW {k j : Nat} {x : Str} {ps ks : List Str} {gV : List V → List V → List V} {sp : Sp} (C : CalK X.prog X.w X.K X.mg X.base k x ps ks gV sp) (hk : k ≤ j) (hr : Room j X.A) (hg : Gl X x) (hkw : PK X kws tk)
    (hall : (backToKw pos (keywordEach kws X.env)).all (·.1.isSome) = true := by rfl) (hks : (backToKw pos (keywordEach kws X.env)).filterMap (·.1) = ks := by rfl) (hdb : (x == ("__debug__" : Str)) = false := by decide)
    (hpl : ((backTo pos (starEach [] X.env)).any (·.1) || (backToKw pos (keywordEach kws X.env)).any (·.1.isNone)) = false := by rfl) : PE X (.Call (.Name x p) [] kws pos) (tCallN 0 ks.length sp gV E0 tNil tk) := by
  obtain ⟨f, fd, g, hm, kp, hb, F⟩ := C.ex
  refine ⟨fun pins s σ H Q I h => ?_⟩
  refine wpAny_Call_Name_kw (ld_glob I hg hm ?_ hdb)
  refine PySem.W.callWith_KW0 (h₀ := X.base) I.ok.mod.kin kp hall ?_ hpl
  refine thn (hkw.run pos pins s σ H _ I h) fun ws s2 ⟨zs, H2, I2, rz, l1, l2, q2⟩ => ⟨I2.kIn, ?_⟩
  rw [hks]
  exact run_fnN (us := []) (vs := []) F (hr.mono hk) hb pass0 I2 .nil rz rfl l2 q2
theorem PK_mono {ts ts' : TA} (h : PK X kws ts) (m : ∀ σ H Q, ts' σ H Q → ts σ H Q) : PK X kws ts' := ⟨fun pos pins s σ H Q I q => h.run pos pins s σ H Q I (m σ H Q q)⟩
theorem ek_nil : PK X [] (liftA B dNil) := PK_mono pk_nil fun σ H Q hq => by
  obtain ⟨own, E, R, rep, ht, k⟩ := hq
  exact k [] E own [] H ht (Evo.refl _ _) .nil rep
theorem ek_cons {nm : Option Str} {kpos : Pos} (ha : PE X e (liftE B t)) (hr : PK X kws (liftA B ts)) : PK X (⟨nm, e, kpos⟩ :: kws) (liftA B (dCons t ts)) := PK_mono (pk_cons (ev_S ha) hr) fun σ H Q hq => by
  obtain ⟨own, E, R, rep, ht, k⟩ := hq
  refine ⟨own, E, _, rep, ht, fun r E1 own1 v H1 q1 ev1 rs1 rep1 => ⟨own1, E1, _, rep1, q1, fun rs E2 own2 vs H2 q2 ev2 rs2 rep2 => ?_⟩⟩
  exact k (r :: rs) E2 own2 (v :: vs) H2 q2 (ev1.trans ev2) (.cons (RvS.sm ev2.ex rs1) rs2) rep2
/-- f(k = v, ..), the keywords in the order of the parameters -/
theorem ev_calK {k j n : Nat} {x : Str} {ps ks : List Str} {tf : List Rv → (Rv → Prop) → Prop} (C : CalK X.prog X.w X.K X.mg X.base k x ps ks (fun us zs => us ++ zs) (spT B.T B.K n tf)) (hn : ks.length = n) (hk : k ≤ j) (hr : Room j X.A) (hg : Gl X x) (hkw : PK X kws (liftA B ts))
    (hall : (backToKw pos (keywordEach kws X.env)).all (·.1.isSome) = true := by rfl) (hks : (backToKw pos (keywordEach kws X.env)).filterMap (·.1) = ks := by rfl) (hdb : (x == ("__debug__" : Str)) = false := by decide)
    (hpl : ((backTo pos (starEach [] X.env)).any (·.1) || (backToKw pos (keywordEach kws X.env)).any (·.1.isNone)) = false := by rfl) : PE X (.Call (.Name x p) [] kws pos) (liftE B (dCal n tf ts)) := PE_mono (pe_callKW C hk hr hg hkw hall hks hdb hpl) fun σ H Q hq => by
  obtain ⟨own, E, R, rep, ht, k⟩ := hq
  refine ⟨own, E, _, rep, ht, fun rs E1 own1 vs H1 q1 ev1 rs1 rep1 => ?_⟩
  have hl : vs.length = n := by rw [pairLen rs1]; exact q1.1
  refine ⟨rfl, hl.trans hn.symm, hid own1 H1, rs, _, B.W, hl, hid_sub, rep1.tb, rep1.wf, rs1, q1.2, fun r v S' H' hr st rn => ?_⟩
  obtain ⟨own3, rep3, ev3, ra⟩ := rep1.resW st rn
  exact k r E1 own3 v H' hr (ev1.trans ev3) ra rep3
end
end Kf

set_option Elab.async false
set_option linter.all false
set_option maxRecDepth 100000
set_option maxHeartbeats 2000000
namespace Kf
open PySem PySem.Spec PyProof.Rows L2 LamX NdefX
/-! ## readings run step by step: what stands behind a question waits until it is answered -/
def hold (R : Rv → EnvD → Prop) (E : EnvD) : Rv → Prop := fun r => R r E
def holdA (R : Rv → EnvD → Prop) (E : EnvD) : Rv → Prop := fun r => atomR r ∧ R r E
def ifS (b : Bool) (t u : TSD) (D : EndD) (E : EnvD) : Prop := if b = true then t D E else u D E
def ifE (b : Bool) (t u : TV) (R : Rv → EnvD → Prop) (E : EnvD) : Prop := if b = true then t E R else u E R
def andK (b : Bool) (u : TTd) (R : Bool → EnvD → Prop) (E : EnvD) : Prop := if b = true then u E R else R false E
def orK (b : Bool) (u : TTd) (R : Bool → EnvD → Prop) (E : EnvD) : Prop := if b = true then R true E else u E R
def andV (r : Rv) (u : TV) (R : Rv → EnvD → Prop) (E : EnvD) : Prop := match r with
  | .d (.bool b) => if b = true then u E R else R (.d (.bool false)) E
  | _ => False
def orV (r : Rv) (u : TV) (R : Rv → EnvD → Prop) (E : EnvD) : Prop := match r with
  | .d (.bool b) => if b = true then R (.d (.bool true)) E else u E R
  | _ => False
def notV (r : Rv) (R : Rv → EnvD → Prop) (E : EnvD) : Prop := match r with
  | .d (.bool b) => R (.d (.bool (!b))) E
  | _ => False
def setK (i : Nat) (r : Rv) (N : EnvD → Prop) (E : EnvD) : Prop := i < E.length ∧ N (E.set i (some r))
def parK (i1 : Nat) (r1 : Rv) (i2 : Nat) (r2 : Rv) (N : EnvD → Prop) (E : EnvD) : Prop := (i1 < E.length ∧ i2 < E.length) ∧ N ((E.set i2 (some r2)).set i1 (some r1))
def varK (o : Option (Option Rv)) (i : Nat) (R : Rv → EnvD → Prop) (E : EnvD) : Prop := match o with
  | some (some (.o x)) => R (.d x) (E.set i (some (.d x)))
  | some (some r) => R r E
  | _ => False
def mvK (o : Option (Option Rv)) (i : Nat) (R : Rv → EnvD → Prop) (E : EnvD) : Prop := match o with
  | some (some (.o x)) => R (.o x) (E.set i none)
  | some (some r) => R r E
  | _ => False
def dsK (o : Option (List PyData)) (R : List PyData → Prop) : Prop := match o with
  | some ds => R ds
  | none => False
def tupK (ds : List PyData) (R : Rv → EnvD → Prop) (E : EnvD) : Prop := ds.length ≤ sizeLine ∧ R (.d (.tuple ds)) E
def lstK (ds : List PyData) (R : Rv → EnvD → Prop) (E : EnvD) : Prop := ds.length ≤ sizeLine ∧ R (.o (.list ds)) E
def truK (d : PyData) (R : Bool → EnvD → Prop) (E : EnvD) : Prop := okTru d ∧ R (truD d) E
def trdK (xs : List (PyData × PyData)) (R : Bool → EnvD → Prop) (E : EnvD) : Prop := tkd xs = false ∧ R (!xs.isEmpty) E
def isiK (f : PyData → Bool) (d : PyData) (R : Rv → EnvD → Prop) (E : EnvD) : Prop := nN d = true ∧ R (.d (.bool (f d))) E
theorem trdK_ok {xs : List (PyData × PyData)} {R : Bool → EnvD → Prop} {E : EnvD} (h : tkd xs = false) (k : R (!xs.isEmpty) E) : trdK xs R E := ⟨h, k⟩
theorem isiK_ok {f : PyData → Bool} {d : PyData} {R : Rv → EnvD → Prop} {E : EnvD} (h : nN d = true) (k : R (.d (.bool (f d))) E) : isiK f d R E := ⟨h, k⟩
def truOK (o : Option (Option Rv)) (R : Bool → EnvD → Prop) (E : EnvD) : Prop := match o with
  | some (some (.o x)) => (match x with
    | .list xs => R (!xs.isEmpty) E
    | .dict xs => trdK xs R E
    | _ => False)
  | some (some (.d d)) => truK d R E
  | _ => False
def tbK (r : Rv) (R : Bool → EnvD → Prop) (E : EnvD) : Prop := match r with
  | .d (.bool b) => R b E
  | _ => False
def lookK (o : Option (Option Rv)) (R : PyData → Prop) : Prop := match o with
  | some (some (.o x)) => R x
  | some (some (.d x)) => R x
  | _ => False
def calK (n : Nat) (tf : List Rv → (Rv → Prop) → Prop) (rs : List Rv) (R : Rv → EnvD → Prop) (E : EnvD) : Prop := rs.length = n ∧ tf rs (hold R E)
def calBK (n : Nat) (tf : List Rv → (Rv → Prop) → Prop) (rs : List Rv) (R : Rv → EnvD → Prop) (E : EnvD) : Prop := rs.length = n ∧ tf rs (holdA R E)
def slK (d : PyData) (l u : Option Int) (R : Rv → EnvD → Prop) (E : EnvD) : Prop := match d with
  | .list ds => R (.o (.list (cutD ds l u))) E
  | .tuple ds => R (.d (.tuple (cutD ds l u))) E
  | .str z => z.length ≤ sizeLine ∧ R (.d (.str (Txt.slice z l u))) E
  | _ => False
def partK (d : PyData) (R : Option Int → EnvD → Prop) (E : EnvD) : Prop := match d with
  | .int i => R (some i) E
  | _ => False
def revK (d : PyData) (R : Rv → EnvD → Prop) (E : EnvD) : Prop := match d with
  | .list xs => R (.o (.list xs.reverse)) E
  | _ => False
def compK (tg : TGD) (tt : TTd) (te : TV) (vs : List Nat) (ds : List PyData) (R : Rv → EnvD → Prop) (E : EnvD) : Prop := compT tg tt te vs ds [] (wipeE E vs) fun acc E2 => R (.o (.list acc)) (backE E E2 vs)
def sqK (o : Option (List PyData)) (R : List PyData → EnvD → Prop) (E : EnvD) : Prop := match o with
  | some ds => R ds E
  | none => False
def rangeK (ds : List PyData) (R : List PyData → EnvD → Prop) (E : EnvD) : Prop := match ds with
  | [.int j] => (-(2 ^ 62) ≤ j ∧ j < 2 ^ 62) ∧ R (rangeD 0 j.toNat) E
  | _ => False
def range2K (ds : List PyData) (R : List PyData → EnvD → Prop) (E : EnvD) : Prop := match ds with
  | [.int i, .int j] => (-(2 ^ 62) ≤ i ∧ i < 2 ^ 62 ∧ -(2 ^ 62) ≤ j ∧ j < 2 ^ 62) ∧ R (rangeD i (j - i).toNat) E
  | _ => False
def enumK (ds : List PyData) (R : List PyData → EnvD → Prop) (E : EnvD) : Prop := match ds with
  | [d] => match itemsD d with
    | some xs => R (enumD 0 xs) E
    | none => False
  | _ => False
def signK (d : PyData) (R : List PyData → EnvD → Prop) (E : EnvD) : Prop := match d with
  | .str z => R (signsD z) E
  | _ => False
def tupG (n : Nat) (t : TGDs) (d : PyData) (k : EnvD → Prop) (E : EnvD) : Prop := match d with
  | .tuple ds => ds.length = n ∧ t ds E k
  | _ => False
def ownK (T : String) (g : PyData → List PyData → (PyData → PyData → Prop) → Prop) (i : Nat) (ts : TVs) (R : Rv → EnvD → Prop) (E : EnvD) (o : Option (Option Rv)) : Prop := match o with
  | some (some (.o x0)) => shT T x0 = true ∧ ts E fun rs E1 => toDs rs fun ds => match E1[i]? with
    | some (some (.o xd)) => g xd ds fun rd xd' => R (.d rd) (E1.set i (some (.o xd')))
    | _ => False
  | _ => False
def ownH (i : Nat) (R : Rv → EnvD → Prop) (E : EnvD) : PyData → PyData → Prop := fun rd xd' => R (.d rd) (E.set i (some (.o xd')))
def ownG (g : PyData → List PyData → (PyData → PyData → Prop) → Prop) (i : Nat) (ds : List PyData) (R : Rv → EnvD → Prop) (E : EnvD) (o : Option (Option Rv)) : Prop := match o with
  | some (some (.o xd)) => g xd ds (ownH i R E)
  | _ => False
def sitA (ti : TV) (i : Nat) (d : PyData) (N : EnvD → Prop) (E : EnvD) (o : Option (Option Rv)) : Prop := match o with
  | some (some (.o _)) => ti E fun r2 E2 => r2.toD (fun j E2 => match E2[i]? with
    | some (some (.o x)) => setAt x j d fun x' => N (E2.set i (some (.o x')))
    | _ => False) E2
  | _ => False
def sitH (i : Nat) (N : EnvD → Prop) (E : EnvD) : PyData → Prop := fun x' => N (E.set i (some (.o x')))
def sitB (i : Nat) (j d : PyData) (N : EnvD → Prop) (E : EnvD) (o : Option (Option Rv)) : Prop := match o with
  | some (some (.o x)) => setAt x j d (sitH i N E)
  | _ => False
def dictK (ps : List (PyData × PyData)) (R : Rv → EnvD → Prop) (E : EnvD) : Prop := (ps.length ≤ 15 ∧ ps.all (fun p => (keyOf p.1).isSome) = true) ∧ R (.o (.dict (mkD ps))) E
def chB (g' : PyData → PyData → (Rv → Prop) → Prop) (d2 : PyData) (tc : TV) (R : Bool → EnvD → Prop) (E : EnvD) : Rv → Prop := fun r => match r with
  | .d (.bool b) => if b = true then tc E fun r3 E3 => r3.toD (fun d3 E3 => g' d2 d3 fun r => match r with
    | .d (.bool b) => R b E3
    | _ => False) E3 else R false E
  | _ => False
def chC (R : Bool → EnvD → Prop) (E : EnvD) : Rv → Prop := fun r => match r with
  | .d (.bool b) => R b E
  | _ => False
def chV (g' : PyData → PyData → (Rv → Prop) → Prop) (d2 : PyData) (tc : TV) (R : Rv → EnvD → Prop) (E : EnvD) : Rv → Prop := fun r => match r with
  | .d (.bool b) => if b = true then tc E fun r3 E3 => r3.toD (fun d3 E3 => g' d2 d3 fun r => R r E3) E3 else R (.d (.bool false)) E
  | _ => False
def calWK (n p0 j : Nat) (tf : List Rv → (Rv → List (Option PyData) → Prop) → Prop) (as : List (Option Rv)) (R : Rv → EnvD → Prop) (E : EnvD) : Prop := as.length = n ∧ holes 0 as = [p0] ∧ ownAt 0 as = [] ∧ match E[j]? with
  | some (some (.o x)) => tf (as.map fun r => r.getD (.o x)) fun r os => os1 os fun o => R r (E.set j (o.map Rv.o))
  | _ => False
def holdW (j : Nat) (R : Rv → EnvD → Prop) (E : EnvD) : Rv → List (Option PyData) → Prop := fun r os => os1 os fun o => R r (E.set j (o.map Rv.o))
def calTK (n p0 : Nat) (tf : List Rv → (Rv → List (Option PyData) → Prop) → Prop) (as : List (Option Rv)) (R : Rv → EnvD → Prop) (E : EnvD) : Prop := as.length = n ∧ holes 0 as = [] ∧ ownAt 0 as = [p0] ∧ tf (as.map fun r => r.getD (.d .none)) fun r os => os.length = 1 ∧ R r E
def holdT (R : Rv → EnvD → Prop) (E : EnvD) : Rv → List (Option PyData) → Prop := fun r os => os.length = 1 ∧ R r E
def repK (i : Int) (r : Rv) (R : Rv → EnvD → Prop) (E : EnvD) : Prop := match r with
  | .o (.list xs) => (0 ≤ i ∧ i ≤ 1000 ∧ xs.length ≤ 1000) ∧ R (.o (.list (List.replicate i.toNat xs).flatten)) E
  | _ => False
section
variable {t u : TSD} {c : TTd} {D : EndD} {e : Option Rv} {E : EnvD} {i j n : Nat} {te ta tb tc ti : TV} {ts : TVs} {R : Rv → EnvD → Prop} {RT : Bool → EnvD → Prop} {x : PyData} {b : Bool}
/-! ### lists -/
theorem zm_cons {α β : Type} {f : α → β} {a : α} {l : List α} : List.map f (a :: l) = f a :: List.map f l := rfl
theorem zm_nil {α β : Type} {f : α → β} : List.map f [] = [] := rfl
theorem za_cons {α : Type} {a : α} {l m : List α} : (a :: l) ++ m = a :: (l ++ m) := rfl
theorem za_nil {α : Type} {m : List α} : [] ++ m = m := rfl
theorem zs_succ {α : Type} {a b : α} {l : List α} {n : Nat} : (a :: l).set (n + 1) b = a :: l.set n b := rfl
theorem zs_zero {α : Type} {a b : α} {l : List α} : (a :: l).set 0 b = b :: l := rfl
theorem zg_succ {α : Type} {a : α} {l : List α} {n : Nat} : (a :: l)[n + 1]? = l[n]? := rfl
theorem zg_zero {α : Type} {a : α} {l : List α} : (a :: l)[0]? = some a := rfl
theorem zo_some {α β : Type} {f : α → β} {a : α} : Option.map f (some a) = some (f a) := rfl
theorem zo_none {α β : Type} {f : α → β} : Option.map f none = none := rfl
theorem zn_t : (!true) = false := rfl
theorem zn_f : (!false) = true := rfl
theorem zw_nil : wipeE E [] = E := rfl
theorem zw_cons {v : Nat} {vs : List Nat} : wipeE E (v :: vs) = (wipeE E vs).set v none := rfl
theorem zk_nil {E0 : EnvD} : backE E0 E [] = E := rfl
theorem zk_cons {E0 : EnvD} {v : Nat} {vs : List Nat} : backE E0 E (v :: vs) = (backE E0 E vs).set v (keepR E0[v]?) := rfl
theorem zk_d : keepR (some (some (.d x))) = some (.d x) := rfl
theorem zk_n : keepR (some none) = none := rfl
theorem zk_o : keepR (some (some (.o x))) = none := rfl
theorem zq_str {a : Str} : decide (a = a) = true := decide_eq_true rfl
/-! ### statements -/
theorem z_seq : sSeq t u D (e :: E) = t ⟨u D, D.rt, D.bk, D.ct, D.rs⟩ (e :: E) := propext Iff.rfl
theorem z_if : sIf c t u D (e :: E) = c (e :: E) fun b E1 => ifS b t u D E1 := propext Iff.rfl
theorem z_ifT : ifS true t u D E = t D E := propext Iff.rfl
theorem z_ifF : ifS false t u D E = u D E := propext Iff.rfl
theorem z_ret : sRet te D (e :: E) = te (e :: E) D.rt := propext Iff.rfl
theorem z_retN : sRetN D (e :: E) = D.rt (.d .none) (e :: E) := propext Iff.rfl
theorem z_next : sNext D (e :: E) = D.nx (e :: E) := propext Iff.rfl
theorem z_set : sSet i te D (e :: E) = te (e :: E) fun r E1 => setK i r D.nx E1 := propext Iff.rfl
theorem z_drop : sDrop te D (e :: E) = te (e :: E) fun _ E1 => D.nx E1 := propext Iff.rfl
theorem z_par {i1 i2 : Nat} : sPar i1 ta i2 tb D (e :: E) = ta (e :: E) fun r1 E1 => tb E1 fun r2 E2 => parK i1 r1 i2 r2 D.nx E2 := propext Iff.rfl
theorem z_asg {tg : TGD} : sAsg te tg D (e :: E) = te (e :: E) fun r E1 => r.toD (fun d E1 => tg d E1 D.nx) E1 := propext Iff.rfl
theorem z_for {td : TID} {tg : TGD} : sFor td tg t D (e :: E) = td (e :: E) fun ds E1 => forT tg t ds D E1 := propext Iff.rfl
theorem z_setIt : sSetIt i ti te D (e :: E) = te (e :: E) fun r E1 => r.toD (fun d E1 => sitA ti i d D.nx E1 E1[i]?) E1 := propext Iff.rfl
theorem z_sitA {d : PyData} {N : EnvD → Prop} : sitA ti i d N (e :: E) (some (some (.o x))) = ti (e :: E) fun r2 E2 => r2.toD (fun j E2 => sitB i j d N E2 E2[i]?) E2 := propext Iff.rfl
theorem z_sitB {jd d : PyData} {N : EnvD → Prop} : sitB i jd d N (e :: E) (some (some (.o x))) = setAt x jd d (sitH i N (e :: E)) := propext Iff.rfl
theorem z_sitH {N : EnvD → Prop} : sitH i N (e :: E) x = N ((e :: E).set i (some (.o x))) := propext Iff.rfl
/-! ### expressions -/
theorem z_var : dVar i (e :: E) R = varK (e :: E)[i]? i R (e :: E) := propext Iff.rfl
theorem z_varO : varK (some (some (.o x))) i R E = R (.d x) (E.set i (some (.d x))) := propext Iff.rfl
theorem z_varD : varK (some (some (.d x))) i R E = R (.d x) E := propext Iff.rfl
theorem z_varM {c : Comp} : varK (some (some (.m c))) i R E = R (.m c) E := propext Iff.rfl
theorem z_varB {C : Addr} {fs : List (Str × PyData)} : varK (some (some (.ob C fs))) i R E = R (.ob C fs) E := propext Iff.rfl
theorem z_mv : dMv i (e :: E) R = mvK (e :: E)[i]? i R (e :: E) := propext Iff.rfl
theorem z_mvO : mvK (some (some (.o x))) i R E = R (.o x) (E.set i none) := propext Iff.rfl
theorem z_mvD : mvK (some (some (.d x))) i R E = R (.d x) E := propext Iff.rfl
theorem z_mvM {c : Comp} : mvK (some (some (.m c))) i R E = R (.m c) E := propext Iff.rfl
theorem z_mvB {C : Addr} {fs : List (Str × PyData)} : mvK (some (some (.ob C fs))) i R E = R (.ob C fs) E := propext Iff.rfl
theorem z_c : dC x (e :: E) R = R (.d x) (e :: E) := propext Iff.rfl
theorem z_hold {r : Rv} : hold R (e :: E) r = R r (e :: E) := propext Iff.rfl
theorem z_op {g : PyData → PyData → (Rv → Prop) → Prop} : dOp g ta tb (e :: E) R = ta (e :: E) fun r1 E1 => r1.toD (fun d1 E1 => tb E1 fun r2 E2 => r2.toD (fun d2 E2 => g d1 d2 (hold R E2)) E2) E1 := propext Iff.rfl
theorem z_cons : dCons te ts (e :: E) RS = te (e :: E) fun r E1 => r.stb (fun r E1 => ts E1 fun rs E2 => RS (r :: rs) E2) E1 := propext Iff.rfl
theorem z_nil {RS : List Rv → EnvD → Prop} : dNil (e :: E) RS = RS [] (e :: E) := propext Iff.rfl
theorem z_toDd {R : PyData → EnvD → Prop} : Rv.toD (.d x) R E = R x E := propext Iff.rfl
theorem z_toDo {R : PyData → EnvD → Prop} : Rv.toD (.o x) R E = R x E := propext Iff.rfl
theorem z_stbd : Rv.stb (.d x) R E = R (.d x) E := propext Iff.rfl
theorem z_stbo : Rv.stb (.o x) R E = R (.d x) E := propext Iff.rfl
theorem z_stbm {c : Comp} : Rv.stb (.m c) R E = R (.m c) E := propext Iff.rfl
theorem z_stbb {C : Addr} {fs : List (Str × PyData)} : Rv.stb (.ob C fs) R E = R (.ob C fs) E := propext Iff.rfl
theorem z_call {g : List PyData → (Rv → Prop) → Prop} : dCall g ts (e :: E) R = ts (e :: E) fun rs E1 => toDs rs fun ds => g ds (hold R E1) := propext Iff.rfl
theorem z_toDs {rs : List Rv} {k : List PyData → Prop} : toDs rs k = dsK (datas rs) k := propext Iff.rfl
theorem z_dsK {ds : List PyData} {k : List PyData → Prop} : dsK (some ds) k = k ds := propext Iff.rfl
theorem z_dsnil : datas [] = some [] := rfl
theorem z_dsd {r : List Rv} : datas (.d x :: r) = (datas r).map (x :: ·) := rfl
theorem z_tup : dTup ts (e :: E) R = ts (e :: E) fun rs E1 => toDs rs fun ds => tupK ds R E1 := propext Iff.rfl
theorem z_lst : dLst ts (e :: E) R = ts (e :: E) fun rs E1 => toDs rs fun ds => lstK ds R E1 := propext Iff.rfl
theorem z_tru : dTru te (e :: E) RT = te (e :: E) fun r E1 => r.toD (fun d E1 => truK d RT E1) E1 := propext Iff.rfl
theorem z_truO : dTruO i (e :: E) RT = truOK (e :: E)[i]? RT (e :: E) := by
  unfold dTruO truOK
  exact propext Iff.rfl
theorem z_truOl {xs : List PyData} : truOK (some (some (.o (.list xs)))) RT E = RT (!xs.isEmpty) E := propext Iff.rfl
theorem z_truOk {xs : List (PyData × PyData)} : truOK (some (some (.o (.dict xs)))) RT E = trdK xs RT E := propext Iff.rfl
theorem z_truOd : truOK (some (some (.d x))) RT E = truK x RT E := propext Iff.rfl
theorem z_tb : dTb te (e :: E) RT = te (e :: E) fun r E1 => tbK r RT E1 := propext Iff.rfl
theorem z_tbK : tbK (.d (.bool b)) RT E = RT b E := propext Iff.rfl
theorem z_and {t u : TTd} : dAnd t u (e :: E) RT = t (e :: E) fun b E1 => andK b u RT E1 := propext Iff.rfl
theorem z_andT {u : TTd} : andK true u RT E = u E RT := propext Iff.rfl
theorem z_andF {u : TTd} : andK false u RT E = RT false E := propext Iff.rfl
theorem z_or {t u : TTd} : dOr t u (e :: E) RT = t (e :: E) fun b E1 => orK b u RT E1 := propext Iff.rfl
theorem z_orT {u : TTd} : orK true u RT E = RT true E := propext Iff.rfl
theorem z_orF {u : TTd} : orK false u RT E = u E RT := propext Iff.rfl
theorem z_not {t : TTd} : dNot t (e :: E) RT = t (e :: E) fun b E1 => RT (!b) E1 := propext Iff.rfl
theorem z_andV : dAndV ta tb (e :: E) R = ta (e :: E) fun r E1 => andV r tb R E1 := propext Iff.rfl
theorem z_andVT : andV (.d (.bool true)) tb R E = tb E R := propext Iff.rfl
theorem z_andVF : andV (.d (.bool false)) tb R E = R (.d (.bool false)) E := propext Iff.rfl
theorem z_orV : dOrV ta tb (e :: E) R = ta (e :: E) fun r E1 => orV r tb R E1 := propext Iff.rfl
theorem z_orVT : orV (.d (.bool true)) tb R E = R (.d (.bool true)) E := propext Iff.rfl
theorem z_orVF : orV (.d (.bool false)) tb R E = tb E R := propext Iff.rfl
theorem z_notV : dNotV ta (e :: E) R = ta (e :: E) fun r E1 => notV r R E1 := propext Iff.rfl
theorem z_notVb : notV (.d (.bool b)) R E = R (.d (.bool (!b))) E := propext Iff.rfl
theorem z_ifx : dIf c ta tb (e :: E) R = c (e :: E) fun b E1 => ifE b ta tb R E1 := propext Iff.rfl
theorem z_ifxT : ifE true ta tb R E = ta E R := propext Iff.rfl
theorem z_ifxF : ifE false ta tb R E = tb E R := propext Iff.rfl
theorem z_chain {g g' : PyData → PyData → (Rv → Prop) → Prop} : dChain g g' ta tb tc (e :: E) RT = ta (e :: E) fun r1 E1 => r1.toD (fun d1 E1 => tb E1 fun r2 E2 => r2.toD (fun d2 E2 => g d1 d2 (chB g' d2 tc RT E2)) E2) E1 := propext Iff.rfl
theorem z_chBT {g' : PyData → PyData → (Rv → Prop) → Prop} : chB g' x tc RT (e :: E) (.d (.bool true)) = tc (e :: E) fun r3 E3 => r3.toD (fun d3 E3 => g' x d3 (chC RT E3)) E3 := propext Iff.rfl
theorem z_chBF {g' : PyData → PyData → (Rv → Prop) → Prop} : chB g' x tc RT (e :: E) (.d (.bool false)) = RT false (e :: E) := propext Iff.rfl
theorem z_chC : chC RT (e :: E) (.d (.bool b)) = RT b (e :: E) := propext Iff.rfl
theorem z_chainV {g g' : PyData → PyData → (Rv → Prop) → Prop} : dChainV g g' ta tb tc (e :: E) R = ta (e :: E) fun r1 E1 => r1.toD (fun d1 E1 => tb E1 fun r2 E2 => r2.toD (fun d2 E2 => g d1 d2 (chV g' d2 tc R E2)) E2) E1 := propext Iff.rfl
theorem z_chVT {g' : PyData → PyData → (Rv → Prop) → Prop} : chV g' x tc R (e :: E) (.d (.bool true)) = tc (e :: E) fun r3 E3 => r3.toD (fun d3 E3 => g' x d3 (hold R E3)) E3 := propext Iff.rfl
theorem z_chVF {g' : PyData → PyData → (Rv → Prop) → Prop} : chV g' x tc R (e :: E) (.d (.bool false)) = R (.d (.bool false)) (e :: E) := propext Iff.rfl
theorem z_isi {f : PyData → Bool} : dIsi f te (e :: E) R = te (e :: E) fun r E1 => r.toD (fun d E1 => isiK f d R E1) E1 := propext Iff.rfl
theorem z_cal {tf : List Rv → (Rv → Prop) → Prop} : dCal n tf ts (e :: E) R = ts (e :: E) fun rs E1 => calK n tf rs R E1 := propext Iff.rfl
theorem z_calB {tf : List Rv → (Rv → Prop) → Prop} {tz : TVb} : dCalB n tf tz (e :: E) R = tz (e :: E) fun as E1 => resolve as E1 fun rs => calBK n tf rs R E1 := propext Iff.rfl
theorem z_bnil {RB : List ArgB → EnvD → Prop} : bNil (e :: E) RB = RB [] (e :: E) := propext Iff.rfl
theorem z_bcons {tz : TVb} {RB : List ArgB → EnvD → Prop} : bCons te tz (e :: E) RB = te (e :: E) fun r E1 => r.stb (fun r E1 => tz E1 fun rs E2 => RB (.inl r :: rs) E2) E1 := propext Iff.rfl
theorem z_bown {tz : TVb} {RB : List ArgB → EnvD → Prop} : bOwn i tz (e :: E) RB = lookD (e :: E) i fun _ => tz (e :: E) fun rs E2 => RB (.inr i :: rs) E2 := propext Iff.rfl
theorem z_resn {k : List Rv → Prop} : resolve [] E k = k [] := propext Iff.rfl
theorem z_resl {r : Rv} {t : List ArgB} {k : List Rv → Prop} : resolve (.inl r :: t) E k = resolve t E fun rs => k (r :: rs) := propext Iff.rfl
theorem z_resr {t : List ArgB} {k : List Rv → Prop} : resolve (.inr i :: t) (e :: E) k = lookD (e :: E) i fun x => resolve t (e :: E) fun rs => k (.d x :: rs) := propext Iff.rfl
theorem z_look {k : PyData → Prop} : lookD (e :: E) i k = lookK (e :: E)[i]? k := propext Iff.rfl
theorem z_lookO {k : PyData → Prop} : lookK (some (some (.o x))) k = k x := propext Iff.rfl
theorem z_lookD {k : PyData → Prop} : lookK (some (some (.d x))) k = k x := propext Iff.rfl
theorem z_callO {g : List PyData → (Rv → Prop) → Prop} : dCallO g i (e :: E) R = lookD (e :: E) i fun x => g [x] (holdA R (e :: E)) := propext Iff.rfl
theorem z_opO2 {g : PyData → PyData → (Rv → Prop) → Prop} : dOpO2 g ta i (e :: E) R = ta (e :: E) fun r1 E1 => r1.toD (fun d1 E1 => lookD E1 i fun x => g d1 x (holdA R E1)) E1 := propext Iff.rfl
theorem z_opO1 {g : PyData → PyData → (Rv → Prop) → Prop} : dOpO1 g i tb (e :: E) R = lookD (e :: E) i fun _ => tb (e :: E) fun r2 E2 => r2.toD (fun d2 E2 => lookD E2 i fun x => g x d2 (holdA R E2)) E2 := propext Iff.rfl
theorem z_ixO : dIxO i ti (e :: E) R = lookD (e :: E) i fun _ => ti (e :: E) fun r1 E1 => r1.toD (fun d1 E1 => lookD E1 i fun x => gIx x d1 (hold R E1)) E1 := propext Iff.rfl
theorem z_partN {k : Option Int → EnvD → Prop} : dPartN (e :: E) k = k none (e :: E) := propext Iff.rfl
theorem z_part {k : Option Int → EnvD → Prop} : dPart te (e :: E) k = te (e :: E) fun r E1 => r.toD (fun d E1 => partK d k E1) E1 := propext Iff.rfl
theorem z_partK {z : Int} {k : Option Int → EnvD → Prop} : partK (.int z) k E = k (some z) E := propext Iff.rfl
theorem z_sl {tl th : EnvD → (Option Int → EnvD → Prop) → Prop} : dSl te tl th (e :: E) R = te (e :: E) fun r E1 => r.toD (fun d E1 => tl E1 fun l E2 => th E2 fun u E3 => slK d l u R E3) E1 := propext Iff.rfl
theorem z_slL {ds : List PyData} {l u : Option Int} : slK (.list ds) l u R E = R (.o (.list (cutD ds l u))) E := propext Iff.rfl
theorem z_slT {ds : List PyData} {l u : Option Int} : slK (.tuple ds) l u R E = R (.d (.tuple (cutD ds l u))) E := propext Iff.rfl
theorem z_rev : dRev te (e :: E) R = te (e :: E) fun r E1 => r.toD (fun d E1 => revK d R E1) E1 := propext Iff.rfl
theorem z_revK {xs : List PyData} : revK (.list xs) R E = R (.o (.list xs.reverse)) E := propext Iff.rfl
theorem z_comp {td : TID} {tg : TGD} {tt : TTd} {vs : List Nat} : dComp td tg tt te vs (e :: E) R = td (e :: E) fun ds E1 => compK tg tt te vs ds R E1 := propext Iff.rfl
theorem z_sq {RI : List PyData → EnvD → Prop} : dSq ti (e :: E) RI = ti (e :: E) fun r E1 => r.toD (fun d E1 => sqK (itemsD d) RI E1) E1 := propext Iff.rfl
theorem z_sqK {ds : List PyData} {RI : List PyData → EnvD → Prop} : sqK (some ds) RI E = RI ds E := propext Iff.rfl
theorem z_itl {ds : List PyData} : itemsD (.list ds) = some ds := rfl
theorem z_itt {ds : List PyData} : itemsD (.tuple ds) = some ds := rfl
theorem z_range {RI : List PyData → EnvD → Prop} : dRange ts (e :: E) RI = ts (e :: E) fun rs E1 => toDs rs fun ds => rangeK ds RI E1 := propext Iff.rfl
theorem z_range2 {RI : List PyData → EnvD → Prop} : dRange2 ts (e :: E) RI = ts (e :: E) fun rs E1 => toDs rs fun ds => range2K ds RI E1 := propext Iff.rfl
theorem z_enum {RI : List PyData → EnvD → Prop} : dEnum ts (e :: E) RI = ts (e :: E) fun rs E1 => toDs rs fun ds => enumK ds RI E1 := propext Iff.rfl
theorem z_signs {RI : List PyData → EnvD → Prop} : dSigns ti (e :: E) RI = ti (e :: E) fun r E1 => r.toD (fun d E1 => signK d RI E1) E1 := propext Iff.rfl
theorem z_signK {z : Str} {RI : List PyData → EnvD → Prop} : signK (.str z) RI E = RI (signsD z) E := propext Iff.rfl
theorem z_name {N : EnvD → Prop} : dName i x (e :: E) N = setK i (.d x) N (e :: E) := propext Iff.rfl
theorem z_tupG {tg : TGDs} {N : EnvD → Prop} : dTupG n tg x (e :: E) N = tupG n tg x N (e :: E) := propext Iff.rfl
theorem z_consG {tg : TGD} {us : TGDs} {r : List PyData} {N : EnvD → Prop} : dConsG tg us (x :: r) (e :: E) N = tg x (e :: E) fun E1 => us r E1 N := propext Iff.rfl
theorem z_nilG {N : EnvD → Prop} : dNilG [] (e :: E) N = N (e :: E) := propext Iff.rfl
theorem z_yes : dYes (e :: E) RT = RT true (e :: E) := propext Iff.rfl
theorem z_ownM {T : String} {g : PyData → List PyData → (PyData → PyData → Prop) → Prop} : dOwnM T g i ts (e :: E) R = ownK T g i ts R (e :: E) (e :: E)[i]? := by
  unfold dOwnM ownK
  exact propext Iff.rfl
theorem z_ownG {g : PyData → List PyData → (PyData → PyData → Prop) → Prop} {ds : List PyData} : ownG g i ds R (e :: E) (some (some (.o x))) = g x ds (ownH i R (e :: E)) := propext Iff.rfl
theorem z_ownH {rd : PyData} : ownH i R (e :: E) rd x = R (.d rd) ((e :: E).set i (some (.o x))) := propext Iff.rfl
theorem z_pairsN {k : List (PyData × PyData) → EnvD → Prop} : pairsT [] (e :: E) k = k [] (e :: E) := propext Iff.rfl
theorem z_pairsC {tk tv : TV} {r : List (TV × TV)} {k : List (PyData × PyData) → EnvD → Prop} : pairsT ((tk, tv) :: r) (e :: E) k = tk (e :: E) fun rk E1 => rk.toD (fun dk E1 => tv E1 fun rv E2 => rv.toD (fun dv E2 => pairsT r E2 fun ps E3 => k ((dk, dv) :: ps) E3) E2) E1 := propext Iff.rfl
theorem z_dict {ts : List (TV × TV)} : dDict ts (e :: E) R = pairsT ts (e :: E) fun ps E1 => dictK ps R E1 := propext Iff.rfl
theorem z_dict0 : dDict0 (e :: E) R = R (.o (.dict [])) (e :: E) := propext Iff.rfl
theorem z_hnil {RH : List (Option Rv) → EnvD → Prop} : hNil (e :: E) RH = RH [] (e :: E) := propext Iff.rfl
theorem z_hcons {th : TVh} {RH : List (Option Rv) → EnvD → Prop} : hCons te th (e :: E) RH = te (e :: E) fun r E1 => r.stb (fun r E1 => th E1 fun rs E2 => RH (some r :: rs) E2) E1 := propext Iff.rfl
theorem z_hhole {th : TVh} {RH : List (Option Rv) → EnvD → Prop} : hHole j th (e :: E) RH = lookD (e :: E) j fun _ => th (e :: E) fun rs E2 => RH (none :: rs) E2 := propext Iff.rfl
theorem z_hlast {RH : List (Option Rv) → EnvD → Prop} : hLast te (e :: E) RH = te (e :: E) fun r E1 => RH [some r] E1 := propext Iff.rfl
theorem z_rep {z : Int} : dRep te z (e :: E) R = te (e :: E) fun r E1 => repK z r R E1 := propext Iff.rfl
theorem repK_ok {z : Int} {xs : List PyData} (h : 0 ≤ z ∧ z ≤ 1000) (h2 : xs.length ≤ 1000) (k : R (.o (.list (List.replicate z.toNat xs).flatten)) E) : repK z (.o (.list xs)) R E := ⟨⟨h.1, h.2, h2⟩, k⟩
theorem z_calW {p0 : Nat} {tf : List Rv → (Rv → List (Option PyData) → Prop) → Prop} {th : TVh} : dCalW n p0 j tf th (e :: E) R = th (e :: E) fun as E1 => calWK n p0 j tf as R E1 := propext Iff.rfl
theorem z_calT {p0 : Nat} {tf : List Rv → (Rv → List (Option PyData) → Prop) → Prop} {th : TVh} : dCalT n p0 tf th (e :: E) R = th (e :: E) fun as E1 => calTK n p0 tf as R E1 := propext Iff.rfl
theorem z_holdW {r : Rv} {y : PyData} : holdW j R (e :: E) r [some y] = R r ((e :: E).set j (some (.o y))) := propext Iff.rfl
theorem z_holdW0 {r : Rv} : holdW j R (e :: E) r [none] = R r ((e :: E).set j none) := propext Iff.rfl
/-! ### what is asked on the way -/
theorem sizeK : (1000 : Nat) < sizeLine := by rw [sizeLine_eq]; decide
theorem setK_ok {r : Rv} {N : EnvD → Prop} (h : Nat.blt i E.length = true) (k : N (E.set i (some r))) : setK i r N E := ⟨Nat.blt_eq.mp h, k⟩
theorem parK_ok {i1 i2 : Nat} {r1 r2 : Rv} {N : EnvD → Prop} (h1 : Nat.blt i1 E.length = true) (h2 : Nat.blt i2 E.length = true) (k : N ((E.set i2 (some r2)).set i1 (some r1))) : parK i1 r1 i2 r2 N E := ⟨⟨Nat.blt_eq.mp h1, Nat.blt_eq.mp h2⟩, k⟩
theorem calK_ok {tf : List Rv → (Rv → Prop) → Prop} {rs : List Rv} (h : rs.length = n) (k : tf rs (hold R E)) : calK n tf rs R E := ⟨h, k⟩
theorem calBK_ok {tf : List Rv → (Rv → Prop) → Prop} {rs : List Rv} (h : rs.length = n) (k : tf rs (holdA R E)) : calBK n tf rs R E := ⟨h, k⟩
theorem holdA_b (k : R (.d (.bool b)) E) : holdA R E (.d (.bool b)) := ⟨trivial, k⟩
theorem holdA_i {z : Int} (k : R (.d (.int z)) E) : holdA R E (.d (.int z)) := ⟨trivial, k⟩
theorem holdA_s {z : Str} (k : R (.d (.str z)) E) : holdA R E (.d (.str z)) := ⟨trivial, k⟩
theorem holdA_n (k : R (.d .none) E) : holdA R E (.d .none) := ⟨trivial, k⟩
theorem tupK_ok {ds : List PyData} (h : Nat.ble ds.length 1000 = true) (k : R (.d (.tuple ds)) E) : tupK ds R E := ⟨by have := Nat.le_of_ble_eq_true h; have := sizeK; omega, k⟩
theorem lstK_ok {ds : List PyData} (h : Nat.ble ds.length 1000 = true) (k : R (.o (.list ds)) E) : lstK ds R E := ⟨by have := Nat.le_of_ble_eq_true h; have := sizeK; omega, k⟩
theorem truK_b (k : RT b E) : truK (.bool b) RT E := ⟨trivial, k⟩
theorem truK_i {z : Int} (k : RT (z != 0) E) : truK (.int z) RT E := ⟨trivial, k⟩
theorem truK_n (k : RT false E) : truK .none RT E := ⟨trivial, k⟩
theorem truK_l {ds : List PyData} (k : RT (!ds.isEmpty) E) : truK (.list ds) RT E := ⟨trivial, k⟩
theorem truK_t {ds : List PyData} (k : RT (!ds.isEmpty) E) : truK (.tuple ds) RT E := ⟨trivial, k⟩
theorem truK_s {z : Str} (h : z.length ≤ 1000) (k : RT ((z.length : Int) != 0) E) : truK (.str z) RT E := ⟨by show z.length ≤ sizeLine; have := sizeK; omega, k⟩
theorem tupG_ok {tg : TGDs} {ds : List PyData} {N : EnvD → Prop} (h : ds.length = n) (k : tg ds E N) : tupG n tg (.tuple ds) N E := ⟨h, k⟩
theorem rangeK_ok {m : Nat} {RI : List PyData → EnvD → Prop} (h : m ≤ 1000000) (k : RI (rangeD 0 m) E) : rangeK [.int (m : Int)] RI E := ⟨⟨by omega, by omega⟩, by simpa using k⟩
theorem rangeK_int {m : Int} {RI : List PyData → EnvD → Prop} (h0 : -1000000 ≤ m) (h : m ≤ 1000000) (k : RI (rangeD 0 m.toNat) E) : rangeK [.int m] RI E := ⟨⟨by omega, by omega⟩, k⟩
theorem enumK_ok {d : PyData} {ds : List PyData} {RI : List PyData → EnvD → Prop} (h : itemsD d = some ds) (k : RI (enumD 0 ds) E) : enumK [d] RI E := by
  show (match itemsD d with | some xs => RI (enumD 0 xs) E | none => False)
  rw [h]
  exact k
theorem ownK_ok {T : String} {g : PyData → List PyData → (PyData → PyData → Prop) → Prop} (h : shT T x = true) (k : ts (e :: E) fun rs E1 => toDs rs fun ds => ownG g i ds R E1 E1[i]?) : ownK T g i ts R (e :: E) (some (some (.o x))) := ⟨h, k⟩
theorem dictK_ok {ps : List (PyData × PyData)} (h : Nat.ble ps.length 15 = true) (h2 : ps.all (fun p => (keyOf p.1).isSome) = true) (k : R (.o (.dict (mkD ps))) E) : dictK ps R E := ⟨⟨Nat.le_of_ble_eq_true h, h2⟩, k⟩
theorem calWK_ok {p0 : Nat} {tf : List Rv → (Rv → List (Option PyData) → Prop) → Prop} {as : List (Option Rv)} (h : as.length = n) (h2 : holes 0 as = [p0]) (h3 : ownAt 0 as = []) (h4 : E[j]? = some (some (.o x))) (k : tf (as.map fun r => r.getD (.o x)) (holdW j R E)) : calWK n p0 j tf as R E := ⟨h, h2, h3, by rw [h4]; exact k⟩
theorem calTK_ok {p0 : Nat} {tf : List Rv → (Rv → List (Option PyData) → Prop) → Prop} {as : List (Option Rv)} (h : as.length = n) (h2 : holes 0 as = []) (h3 : ownAt 0 as = [p0]) (k : tf (as.map fun r => r.getD (.d .none)) (holdT R E)) : calTK n p0 tf as R E := ⟨h, h2, h3, k⟩
theorem holdT_ok {r : Rv} {o : Option PyData} (k : R r E) : holdT R E r [o] := ⟨rfl, k⟩
theorem ifS_dec {p : Prop} [Decidable p] (h1 : p → t D E) (h2 : ¬p → u D E) : ifS (decide p) t u D E := by
  by_cases h : p
  · rw [decide_eq_true h]; exact h1 h
  · rw [decide_eq_false h]; exact h2 h
theorem ifS_b (h1 : b = true → t D E) (h2 : b = false → u D E) : ifS b t u D E := by
  cases b
  · exact h2 rfl
  · exact h1 rfl
theorem andK_b {u : TTd} (h1 : b = true → u E RT) (h2 : b = false → RT false E) : andK b u RT E := by
  cases b
  · exact h2 rfl
  · exact h1 rfl
theorem orK_b {u : TTd} (h1 : b = true → RT true E) (h2 : b = false → u E RT) : orK b u RT E := by
  cases b
  · exact h2 rfl
  · exact h1 rfl
theorem andV_b (h1 : b = true → tb E R) (h2 : b = false → R (.d (.bool false)) E) : andV (.d (.bool b)) tb R E := by
  cases b
  · exact h2 rfl
  · exact h1 rfl
theorem orV_b (h1 : b = true → R (.d (.bool true)) E) (h2 : b = false → tb E R) : orV (.d (.bool b)) tb R E := by
  cases b
  · exact h2 rfl
  · exact h1 rfl
theorem ifE_b (h1 : b = true → ta E R) (h2 : b = false → tb E R) : ifE b ta tb R E := by
  cases b
  · exact h2 rfl
  · exact h1 rfl
theorem chB_b {g' : PyData → PyData → (Rv → Prop) → Prop} (h1 : b = true → chB g' x tc RT E (.d (.bool true))) (h2 : b = false → chB g' x tc RT E (.d (.bool false))) : chB g' x tc RT E (.d (.bool b)) := by
  cases b
  · exact h2 rfl
  · exact h1 rfl
theorem chV_b {g' : PyData → PyData → (Rv → Prop) → Prop} (h1 : b = true → chV g' x tc R E (.d (.bool true))) (h2 : b = false → chV g' x tc R E (.d (.bool false))) : chV g' x tc R E (.d (.bool b)) := by
  cases b
  · exact h2 rfl
  · exact h1 rfl
end
/-! ### operations -/
section
variable {i j : Int} {k : Rv → Prop} {x y : PyData} {ds : List PyData} {b : Bool}
theorem zo_int {fi : Int → Int → PyData} (q : k (.d (fi i j))) : gIntOp (fun _ _ => True) fi (.int i) (.int j) k := ⟨trivial, q⟩
theorem zo_mod {fi : Int → Int → PyData} (h : 0 < j) (q : k (.d (fi i j))) : gIntOp (fun _ j => 0 < j) fi (.int i) (.int j) k := ⟨h, q⟩
theorem zo_add (q : k (.d (.int (i + j)))) : gAdd (.int i) (.int j) k := q
theorem zo_eqI (q : k (.d (.bool (i == j)))) : gEq (.int i) (.int j) k := ⟨⟨by simp [dpD], rfl, rfl⟩, by simpa [eqP] using q⟩
theorem zo_neI (q : k (.d (.bool (!(i == j))))) : gNe (.int i) (.int j) k := ⟨⟨⟨rfl, rfl, .inl rfl, by simp [dpD]⟩, rfl, rfl⟩, by simpa [eqP] using q⟩
theorem zo_lenL (q : k (.d (.int ds.length))) : gLen [.list ds] k := q
theorem zo_lenT (q : k (.d (.int ds.length))) : gLen [.tuple ds] k := q
theorem zo_lstL (q : k (.o (.list ds))) : gList [.list ds] k := q
theorem zo_lstT (q : k (.o (.list ds))) : gList [.tuple ds] k := q
theorem zo_tupL (q : k (.d (.tuple ds))) : gTuple [.list ds] k := q
theorem zo_tupT (q : k (.d (.tuple ds))) : gTuple [.tuple ds] k := q
theorem zo_ixL (h : atI ds i = some x) (q : k (.d x)) : gIx (.list ds) (.int i) k := by
  show (match atI ds i with | some x => k (.d x) | none => False)
  rw [h]; exact q
theorem zo_ixT (h : atI ds i = some x) (q : k (.d x)) : gIx (.tuple ds) (.int i) k := by
  show (match atI ds i with | some x => k (.d x) | none => False)
  rw [h]; exact q
theorem dKey_k {d : PyData} {kvs : List (PyData × PyData)} {p : Prop} {q : NestedKey → Prop} (h : (keyOf d).isSome = true) (t : tkd kvs = false) (k : p) : dKey d kvs p q := by
  unfold dKey
  cases e : keyOf d with
  | none => rw [e] at h; cases h
  | some key => exact ⟨t, k⟩
def TKey (ys : List PyData) (kvs : List (PyData × PyData)) (q : NestedKey → Prop) : Prop := ∃ nk, (isTk (.tuple ys) = true ∧ nkD (.tuple ys) = some nk ∧ nk.depth ≤ 8 ∧ (kvs = [] ∨ tkd kvs = true)) ∧ q nk
theorem tKey {ys : List PyData} {kvs : List (PyData × PyData)} {q : NestedKey → Prop} {nk : NestedKey} (h : nkD (.tuple ys) = some nk) (l : nk.depth ≤ 8) (t : kvs = [] ∨ tkd kvs = true) (k : q nk) : TKey ys kvs q := ⟨nk, ⟨rfl, h, l, t⟩, k⟩
theorem zo_ixD {kvs : List (PyData × PyData)} (h1 : (keyOf y).isSome = true) (t : tkd kvs = false) (h : findD y kvs = some x) (q : k (.d x)) : gIx (.dict kvs) y k := by
  refine dKey_k h1 t ?_
  rw [h]; exact q
theorem zo_ixDt {ys : List PyData} {nk : NestedKey} {kvs : List (PyData × PyData)} (h1 : nkD (.tuple ys) = some nk) (l : nk.depth ≤ 8) (t : tkd kvs = true) (h : findT nk kvs = some x) (q : k (.d x)) : gIx (.dict kvs) (.tuple ys) k := by
  show TKey ys kvs fun nk => match findT nk kvs with | some x => k (.d x) | none => False
  refine tKey h1 l (.inr t) ?_
  rw [h]; exact q
theorem zo_inDt {ys : List PyData} {nk : NestedKey} {kvs : List (PyData × PyData)} (h1 : nkD (.tuple ys) = some nk) (l : nk.depth ≤ 8) (t : kvs = [] ∨ tkd kvs = true) (q : k (.d (.bool (findT nk kvs).isSome))) : gIn false (.tuple ys) (.dict kvs) k := by
  show TKey ys kvs fun nk => k (.d (.bool (findT nk kvs).isSome))
  exact tKey h1 l t q
theorem zo_notInDt {ys : List PyData} {nk : NestedKey} {kvs : List (PyData × PyData)} (h1 : nkD (.tuple ys) = some nk) (l : nk.depth ≤ 8) (t : kvs = [] ∨ tkd kvs = true) (q : k (.d (.bool (!(findT nk kvs).isSome)))) : gIn true (.tuple ys) (.dict kvs) k := by
  show TKey ys kvs fun nk => k (.d (.bool (!(findT nk kvs).isSome)))
  exact tKey h1 l t q
theorem zo_setDt {ys : List PyData} {nk : NestedKey} {kvs : List (PyData × PyData)} {d : PyData} {ks : PyData → Prop} (h0 : kvs.length ≤ 100000) (h1 : nkD (.tuple ys) = some nk) (l : nk.depth ≤ 8) (t : kvs = [] ∨ tkd kvs = true) (q : ks (.dict (putT (.tuple ys) nk d kvs))) : setAt (.dict kvs) (.tuple ys) d ks := by
  show kvs.length < sizeLine ∧ TKey ys kvs fun nk => ks (.dict (putT (.tuple ys) nk d kvs))
  exact ⟨by rw [sizeLine_eq]; omega, tKey h1 l t q⟩
theorem zo_setD {y : PyData} {kvs : List (PyData × PyData)} {d : PyData} {ks : PyData → Prop} (h0 : kvs.length ≤ 100000) (h1 : (keyOf y).isSome = true) (t : tkd kvs = false) (q : ks (.dict (putD y d kvs))) : setAt (.dict kvs) y d ks := ⟨by rw [sizeLine_eq]; omega, dKey_k h1 t q⟩
theorem zo_app {ko : PyData → PyData → Prop} (h : ds.length ≤ 100000) (q : ko .none (.list (ds ++ [x]))) : gAppend (.list ds) [x] ko := ⟨by rw [sizeLine_eq]; omega, q⟩
theorem zo_addL {es : List PyData} (h : ds.length + es.length ≤ 1000) (q : k (.o (.list (ds ++ es)))) : gAdd (.list ds) (.list es) k := ⟨by have := sizeK; omega, q⟩
theorem zo_addT {es : List PyData} (h : ds.length + es.length ≤ 1000) (q : k (.d (.tuple (ds ++ es)))) : gAdd (.tuple ds) (.tuple es) k := ⟨by have := sizeK; omega, q⟩
theorem zo_set {d : PyData} {m : Nat} {ks : PyData → Prop} (h : ixN ds.length i = some m) (q : ks (.list (ds.set m d))) : setAt (.list ds) (.int i) d ks := by
  show (match ixN ds.length i with | some n => ks (.list (ds.set n d)) | none => False)
  rw [h]; exact q
theorem ixN_nat {n m : Nat} (h : m < n) : ixN n (m : Int) = some m := by
  unfold ixN
  rw [if_pos (by omega), if_pos (by omega)]
  rfl
theorem zo_setN {d : PyData} {m : Nat} {ks : PyData → Prop} (h : m < ds.length) (q : ks (.list (ds.set m d))) : setAt (.list ds) (.int (m : Int)) d ks := zo_set (ixN_nat h) q
theorem atI_get {α : Type} {xs : List α} {m : Nat} {x : α} (h : xs[m]? = some x) : atI xs (m : Int) = some x := by
  have hm : m < xs.length := (List.getElem?_eq_some_iff.mp h).1
  unfold atI
  rw [ixN_nat hm]
  exact h
theorem zo_ixLn {m : Nat} (h : ds[m]? = some x) (q : k (.d x)) : gIx (.list ds) (.int (m : Int)) k := zo_ixL (atI_get h) q
theorem zo_ixTn {m : Nat} (h : ds[m]? = some x) (q : k (.d x)) : gIx (.tuple ds) (.int (m : Int)) k := zo_ixT (atI_get h) q
theorem zo_min2 (q : k (.d (.int (if j < i then j else i)))) : gMin2 [.int i, .int j] k := q
theorem zo_max2 (q : k (.d (.int (if j > i then j else i)))) : gMax2 [.int i, .int j] k := q
theorem zo_repr (h : x.showable = true ∧ x.depth ≤ 60 ∧ x.shown.length ≤ sizeLine ∧ plD x = true) (q : k (.d (.str x.shown))) : gRepr [x] k := ⟨h, q⟩
theorem zo_eqS {z w : Str} (q : k (.d (.bool (decide (z = w))))) : gEq (.str z) (.str w) k := ⟨⟨by simp [dpD], rfl, rfl⟩, by
  have e : eqP (.str z) (.str w) = decide (z = w) := by simp only [eqP]; exact Bool.eq_iff_iff.mpr (by simp)
  rw [e]; exact q⟩
theorem zo_neS {z w : Str} (q : k (.d (.bool (!decide (z = w))))) : gNe (.str z) (.str w) k := ⟨⟨⟨rfl, rfl, .inl rfl, by simp [dpD]⟩, rfl, rfl⟩, by
  have e : eqP (.str z) (.str w) = decide (z = w) := by simp only [eqP]; exact Bool.eq_iff_iff.mpr (by simp)
  rw [e]; exact q⟩
end
end Kf

set_option Elab.async false
set_option linter.all false
set_option maxRecDepth 100000
set_option maxHeartbeats 2000000
set_option exponentiation.threshold 2000
namespace Kf
open PySem PySem.Spec PyProof.Rows L2 LamX NdefX
/-! ## steps of what may raise, of instances, of caught errors -/
abbrev RX := Addr → Flds → EnvD → Prop
def isnK (neg : Bool) (r : Rv) (R : Rv → EnvD → Prop) (E : EnvD) : Prop := match r with
  | .d .none => R (.d (.bool (!neg))) E
  | .a φ => (∃ K C fs, φ = XA K C fs) ∧ R (.d (.bool neg)) E
  | _ => R (.d (.bool neg)) E
def holdP (R : Rv → EnvD → Prop) (E : EnvD) : PyData → Prop := fun x => R (.d x) E
def holdB (C : Addr) (R : Rv → EnvD → Prop) (E : EnvD) : Flds → Prop := fun fs => R (.ob C fs) E
def holdX (Rx : RX) (E : EnvD) : Addr → Flds → Prop := fun D gs => Rx D gs E
def makeK (C : Addr) (n : Nat) (tf : List Rv → (Flds → Prop) → (Addr → Flds → Prop) → Prop) (rs : List Rv) (R : Rv → EnvD → Prop) (Rx : RX) (E : EnvD) : Prop := rs.length = n ∧ tf rs (holdB C R E) (holdX Rx E)
def metK (C : Addr) (m : Str) (n : Nat) (tf : List Rv → (Rv → Prop) → (Addr → Flds → Prop) → Prop) (ts : TVs) (R : Rv → EnvD → Prop) (Rx : RX) (E : EnvD) (r : Rv) : Prop := match r with
  | .ob C' fs => (C' = C ∧ fs.lookup m = none) ∧ ts E fun rs E2 => (rs.length + 1 = n) ∧ tf (.ob C' fs :: rs) (hold R E2) (holdX Rx E2)
  | _ => False
def calXK (n : Nat) (tf : List Rv → (Rv → Prop) → (Addr → Flds → Prop) → Prop) (rs : List Rv) (R : Rv → EnvD → Prop) (Rx : RX) (E : EnvD) : Prop := rs.length = n ∧ tf rs (hold R E) (holdX Rx E)
def toldO (n : Nat) (t : TSD) (R : Rv → EnvD → Prop) (E : EnvD) (r : Rv) : Prop := aft n t r (.d .none) (hold R E)
def toldX (K : KW) (ok : Addr → Prop) (n : Nat) (t : TSD) (R : Rv → EnvD → Prop) : RX := fun C fs E => ok C ∧ aft n t (.d .none) (.a (XA K C fs)) (hold R E)
def isxK (K : KW) (ok : Addr → Bool → Prop) (R : Rv → EnvD → Prop) (E : EnvD) (r : Rv) : Prop := match r with
  | .a φ => ∃ C fs b, φ = XA K C fs ∧ ok C b ∧ R (.d (.bool b)) E
  | _ => False
def xfK (K : KW) (cs : List Addr) (f : Str) (R : Rv → EnvD → Prop) (E : EnvD) (r : Rv) : Prop := match r with
  | .a φ => ∃ C fs, φ = XA K C fs ∧ C ∈ cs ∧ match fs.lookup f with
    | some d => R (.d d) E
    | none => False
  | _ => False
def raiseK (C : Addr) (f : Str) (D : EndD) (r : Rv) (E : EnvD) : Prop := match r with
  | .d (.int i) => i.natAbs.log2 < 1920 ∧ D.rs C [(f, .int i)] E
  | _ => False
def raiseNK (C : Addr) (D : EndD) (rs : List Rv) (E : EnvD) : Prop := rs.length ≤ 1000 ∧ D.rs C [] E
def attK (C : Addr) (f : Str) (R : Rv → EnvD → Prop) (E : EnvD) (r : Rv) : Prop := match r with
  | .ob C' fs => C' = C ∧ match fs.lookup f with
    | some d => R (.d d) E
    | none => False
  | _ => False
def fldK (x : Addr) (f : Str) (d : PyData) (nx : Flds → EnvD → Prop) (fs : Flds) (E : EnvD) : Prop := (E[0]? = some (some (.a (atX x))) ∧ fs.lookup f = none ∧ fs.length < 1000) ∧ nx (fs ++ [(f, d)]) E
section
variable {t u : TSD} {c : TTd} {D : EndD} {e : Option Rv} {E : EnvD} {i j n : Nat} {te ta tb tc ti : TV} {tx : TVX} {ts : TVs} {R : Rv → EnvD → Prop} {Rx : RX} {RT : Bool → EnvD → Prop} {x : PyData} {b neg : Bool} {K : KW} {C : Addr} {fs : Flds} {f m : Str}
theorem z_isN : dIsNo neg te (e :: E) R = te (e :: E) fun r E1 => isnK neg r R E1 := propext Iff.rfl
theorem z_isnN : isnK neg (.d .none) R E = R (.d (.bool (!neg))) E := propext Iff.rfl
theorem z_isnB : isnK neg (.d (.bool b)) R E = R (.d (.bool neg)) E := propext Iff.rfl
theorem z_isnI {k : Int} : isnK neg (.d (.int k)) R E = R (.d (.bool neg)) E := propext Iff.rfl
theorem z_isnS {z : Str} : isnK neg (.d (.str z)) R E = R (.d (.bool neg)) E := propext Iff.rfl
theorem z_isnL {ds : List PyData} : isnK neg (.d (.list ds)) R E = R (.d (.bool neg)) E := propext Iff.rfl
theorem z_isnT {ds : List PyData} : isnK neg (.d (.tuple ds)) R E = R (.d (.bool neg)) E := propext Iff.rfl
theorem z_isnD {ds : List (PyData × PyData)} : isnK neg (.d (.dict ds)) R E = R (.d (.bool neg)) E := propext Iff.rfl
theorem z_isnO : isnK neg (.o x) R E = R (.d (.bool neg)) E := propext Iff.rfl
theorem z_isnOb : isnK neg (.ob C fs) R E = R (.d (.bool neg)) E := propext Iff.rfl
theorem z_isnA : isnK neg (.a (XA K C fs)) R E = R (.d (.bool neg)) E := propext ⟨fun h => h.2, fun h => ⟨⟨_, _, _, rfl⟩, h⟩⟩
theorem z_varA {φ : V → Hp → Prop} : varK (some (some (.a φ))) i R E = R (.a φ) E := propext Iff.rfl
theorem z_mvA {φ : V → Hp → Prop} : mvK (some (some (.a φ))) i R E = R (.a φ) E := propext Iff.rfl
theorem z_stbA {φ : V → Hp → Prop} : Rv.stb (.a φ) R E = R (.a φ) E := propext Iff.rfl
theorem z_join {a : Str} : dJoin a te (e :: E) R = te (e :: E) fun r2 E2 => r2.toD (fun d E2 => gJoin (.str a) d (holdP R E2)) E2 := propext Iff.rfl
theorem z_holdP : holdP R (e :: E) x = R (.d x) (e :: E) := propext Iff.rfl
theorem z_holdB : holdB C R (e :: E) fs = R (.ob C fs) (e :: E) := propext Iff.rfl
theorem z_holdX : holdX Rx (e :: E) C fs = Rx C fs (e :: E) := propext Iff.rfl
theorem z_calm : calmX tx (e :: E) R = tx (e :: E) R fun _ _ _ => False := propext Iff.rfl
theorem z_make {tf : List Rv → (Flds → Prop) → (Addr → Flds → Prop) → Prop} : dMake C n tf ts (e :: E) R Rx = ts (e :: E) fun rs E1 => makeK C n tf rs R Rx E1 := propext Iff.rfl
theorem z_metX {tf : List Rv → (Rv → Prop) → (Addr → Flds → Prop) → Prop} : dMetX C m n tf te ts (e :: E) R Rx = te (e :: E) fun r E1 => metK C m n tf ts R Rx E1 r := by
  unfold dMetX metK
  exact propext Iff.rfl
theorem z_calX {tf : List Rv → (Rv → Prop) → (Addr → Flds → Prop) → Prop} : dCalX n tf ts (e :: E) R Rx = ts (e :: E) fun rs E1 => calXK n tf rs R Rx E1 := propext Iff.rfl
theorem z_xof : dXof te (e :: E) R Rx = te (e :: E) R := propext Iff.rfl
theorem z_told {ok : Addr → Prop} : dTold K ok n t tx (e :: E) R = tx (e :: E) (fun r E1 => toldO n t R E1 r) (toldX K ok n t R) := propext Iff.rfl
theorem z_isX {ok : Addr → Bool → Prop} : dIsX K ok te (e :: E) R = te (e :: E) fun r E1 => isxK K ok R E1 r := by
  unfold dIsX isxK
  exact propext Iff.rfl
theorem isxK_ok {ok : Addr → Bool → Prop} (h : ok C b) (k : R (.d (.bool b)) E) : isxK K ok R E (.a (XA K C fs)) := ⟨C, fs, b, rfl, h, k⟩
theorem z_xf {cs : List Addr} : dXf K cs f te (e :: E) R = te (e :: E) fun r E1 => xfK K cs f R E1 r := by
  unfold dXf xfK
  exact propext Iff.rfl
theorem xfK_ok {cs : List Addr} (h : C ∈ cs) (h2 : fs.lookup f = some x) (k : R (.d x) E) : xfK K cs f R E (.a (XA K C fs)) := ⟨C, fs, rfl, h, by rw [h2]; exact k⟩
theorem z_raise : sRaise C f te D (e :: E) = te (e :: E) fun r E1 => raiseK C f D r E1 := by
  unfold sRaise raiseK
  exact propext Iff.rfl
theorem raiseK_ok {k : Int} (h : -1000000 ≤ k) (h2 : k ≤ 1000000) (q : D.rs C [(f, .int k)] E) : raiseK C f D (.d (.int k)) E := ⟨by
  have : k.natAbs < 2 ^ 1920 := Nat.lt_of_lt_of_le (show k.natAbs < 2 ^ 20 by omega) (Nat.pow_le_pow_right (by decide) (by decide))
  by_cases z : k.natAbs = 0
  · rw [z]; decide
  · exact (Nat.log2_lt z).mpr this, q⟩
theorem z_raiseN : sRaiseN C ts D (e :: E) = ts (e :: E) fun rs E1 => raiseNK C D rs E1 := propext Iff.rfl
theorem raiseNK_ok {rs : List Rv} (h : Nat.ble rs.length 1000 = true) (k : D.rs C [] E) : raiseNK C D rs E := ⟨Nat.le_of_ble_eq_true h, k⟩
theorem z_att : dAtt C f te (e :: E) R = te (e :: E) fun r E1 => attK C f R E1 r := by
  unfold dAtt attK
  exact propext Iff.rfl
theorem attK_ok (h : fs.lookup f = some x) (k : R (.d x) E) : attK C f R E (.ob C fs) := ⟨rfl, by rw [h]; exact k⟩
theorem makeK_ok {tf : List Rv → (Flds → Prop) → (Addr → Flds → Prop) → Prop} {rs : List Rv} (h : rs.length = n) (k : tf rs (holdB C R E) (holdX Rx E)) : makeK C n tf rs R Rx E := ⟨h, k⟩
theorem calXK_ok {tf : List Rv → (Rv → Prop) → (Addr → Flds → Prop) → Prop} {rs : List Rv} (h : rs.length = n) (k : tf rs (hold R E) (holdX Rx E)) : calXK n tf rs R Rx E := ⟨h, k⟩
def metA (n : Nat) (tf : List Rv → (Rv → Prop) → (Addr → Flds → Prop) → Prop) (o : Rv) (rs : List Rv) (R : Rv → EnvD → Prop) (Rx : RX) (E : EnvD) : Prop := rs.length + 1 = n ∧ tf (o :: rs) (hold R E) (holdX Rx E)
theorem metK_ok {tf : List Rv → (Rv → Prop) → (Addr → Flds → Prop) → Prop} (h : fs.lookup m = none) (k : ts E fun rs E2 => metA n tf (.ob C fs) rs R Rx E2) : metK C m n tf ts R Rx E (.ob C fs) := ⟨⟨rfl, h⟩, k⟩
theorem metA_ok {tf : List Rv → (Rv → Prop) → (Addr → Flds → Prop) → Prop} {o : Rv} {rs : List Rv} (h : rs.length + 1 = n) (k : tf (o :: rs) (hold R E) (holdX Rx E)) : metA n tf o rs R Rx E := ⟨h, k⟩
/-! ### __init__ -/
theorem z_iSeq {t u : TSI} {nx : Flds → EnvD → Prop} : iSeq t u nx Rx fs (e :: E) = t (fun fs' E' => u nx Rx fs' E') Rx fs (e :: E) := propext Iff.rfl
theorem z_iOf {nx : Flds → EnvD → Prop} : iOf t nx Rx fs (e :: E) = t ⟨fun E' => nx fs E', fun _ _ => False, fun _ => False, fun _ => False, Rx⟩ (e :: E) := propext Iff.rfl
theorem z_iFld {a : Addr} {nx : Flds → EnvD → Prop} : iFld a f te nx Rx fs (e :: E) = te (e :: E) fun r E1 => r.toD (fun d E1 => fldK a f d nx fs E1) E1 := propext Iff.rfl
theorem fldK_ok {a : Addr} {nx : Flds → EnvD → Prop} (h : fs.lookup f = none) (h2 : Nat.blt fs.length 1000 = true) (k : nx (fs ++ [(f, x)]) (some (.a (atX a)) :: E)) : fldK a f x nx fs (some (.a (atX a)) :: E) := ⟨⟨rfl, h, Nat.blt_eq.mp h2⟩, k⟩
end
theorem zo_join {a : Str} {ys : List Str} {k : PyData → Prop} (h : (ys.map (·.length)).sum + ys.length * a.length ≤ 16777216) (q : k (.str (Txt.join a ys))) : gJoin (.str a) (.list (ys.map .str)) k := by
  show joinK a (strsQ (ys.map .str)) k
  rw [strsQ_str]
  exact ⟨h, q⟩
theorem zo_sortS {xs : List Str} {k : Rv → Prop} (h : xs.length < 64) (q : ∀ ys : List Str, ys.Perm xs → sortedS ys = true → k (.o (.list (ys.map .str)))) : gSortS [.list (xs.map .str)] k := by
  show (match strsQ (xs.map .str) with | some xs => xs.length < 64 ∧ ∀ ys : List Str, ys.Perm xs → sortedS ys = true → k (.o (.list (ys.map .str))) | none => False)
  rw [strsQ_str]
  exact ⟨h, q⟩
end Kf

set_option Elab.async false
set_option linter.all false
set_option maxRecDepth 100000
set_option maxHeartbeats 2000000
namespace Kf
open PySem PySem.Spec PyProof.Rows L2 LamX NdefX
/-! ## < of data, sorted of data -/
def rCmpD (K : PySem.W.Frag) (f : PyData → PyData → Bool) : R2 := fun x y H Q => ∃ d e, Da K H x d ∧ Da K H y e ∧ (PySem.W.alike d e = true ∧ d ≠ .none ∧ d.depth ≤ 60) ∧ Q (.bl (f d e)) H
section
variable {X : Cx} {B : Bas}
theorem op_ltD (hu : X.A.units + 64 < cLine) : OpR X (compareOp .Lt) (rCmpD X.K PySem.W.dataLt) := by
  intro pins s σ H x y v u Q I rx ry ⟨d, e, hd, he, hc, q⟩
  obtain ⟨as, ra⟩ := hd.reads I rx
  obtain ⟨bs, rb⟩ := he.reads I ry
  exact PySem.W.lt_data ra rb hc.1 hc.2.1 (by have := Nat.min_le_left d.depth e.depth; omega) ⟨.bl _, H, I, rfl, q⟩
theorem op_gtD (hu : X.A.units + 64 < cLine) : OpR X (compareOp .Gt) (rCmpD X.K fun d e => PySem.W.dataLt e d) := by
  intro pins s σ H x y v u Q I rx ry ⟨d, e, hd, he, hc, q⟩
  obtain ⟨as, ra⟩ := hd.reads I rx
  obtain ⟨bs, rb⟩ := he.reads I ry
  exact PySem.W.gt_data ra rb hc.1 hc.2.1 (by have := Nat.min_le_left d.depth e.depth; omega) ⟨.bl _, H, I, rfl, q⟩
theorem op_leD (hu : X.A.units + 64 < cLine) : OpR X (compareOp .LtE) (rCmpD X.K fun d e => !PySem.W.dataLt e d) := by
  intro pins s σ H x y v u Q I rx ry ⟨d, e, hd, he, hc, q⟩
  obtain ⟨as, ra⟩ := hd.reads I rx
  obtain ⟨bs, rb⟩ := he.reads I ry
  exact PySem.W.le_data ra rb hc.1 hc.2.1 (by have := Nat.min_le_left d.depth e.depth; omega) ⟨.bl _, H, I, rfl, q⟩
theorem op_geD (hu : X.A.units + 64 < cLine) : OpR X (compareOp .GtE) (rCmpD X.K fun d e => !PySem.W.dataLt d e) := by
  intro pins s σ H x y v u Q I rx ry ⟨d, e, hd, he, hc, q⟩
  obtain ⟨as, ra⟩ := hd.reads I rx
  obtain ⟨bs, rb⟩ := he.reads I ry
  exact PySem.W.ge_data ra rb hc.1 hc.2.1 (by have := Nat.min_le_left d.depth e.depth; omega) ⟨.bl _, H, I, rfl, q⟩
def gCmpD (f : PyData → PyData → Bool) (d e : PyData) (k : Rv → Prop) : Prop := ((PySem.W.alike d e = true ∧ d ≠ .none ∧ d.depth ≤ 60) ∧ plD d = true ∧ plD e = true) ∧ k (.d (.bool (f d e)))
theorem og_cmpD {f : PyData → PyData → Bool} : OpG B (rCmpD B.K.K f) (gCmpD f) := fun S H v1 v2 d1 d2 k Q s h1 h2 g q => ⟨d1, d2, (da_sub s h1).da g.1.2.1, (da_sub s h2).da g.1.2.2, g.1.1, fin_d s q g.2 (.bl _)⟩
end
abbrev gLtD := gCmpD PySem.W.dataLt
abbrev gGtD := gCmpD fun d e => PySem.W.dataLt e d
abbrev gLeD := gCmpD fun d e => !PySem.W.dataLt e d
abbrev gGeD := gCmpD fun d e => !PySem.W.dataLt d e
theorem zo_cmpD {f : PyData → PyData → Bool} {d e : PyData} {k : Rv → Prop} (h : (PySem.W.alike d e = true ∧ d ≠ .none ∧ d.depth ≤ 60) ∧ plD d = true ∧ plD e = true) (q : k (.d (.bool (f d e)))) : gCmpD f d e k := ⟨h, q⟩
/-! ### sorted -/
theorem each_of_pairedD {β : Type} {R : V → β → Prop} : ∀ {xs : List V} {us : List Value} {bs : List β}, Vals xs us → Paired R xs bs → PySem.W.EachIs (fun v b => ∃ x, RelV x v ∧ R x b) us bs
  | _, _, _, .nil, .nil => .nil
  | _, _, _, .cons r t, .cons h t2 => .cons ⟨_, r, h⟩ (each_of_pairedD t t2)
theorem each_backD {β : Type} {R : V → β → Prop} : ∀ {us : List Value} {bs : List β}, PySem.W.EachIs (fun v b => ∃ x, RelV x v ∧ R x b) us bs → ∃ ys, Vals ys us ∧ Paired R ys bs
  | _, _, .nil => ⟨[], .nil, .nil⟩
  | _, _, .cons ⟨x, r, h⟩ t => by
    obtain ⟨ys, v, p⟩ := each_backD t
    exact ⟨x :: ys, .cons r v, .cons h p⟩
theorem each_impD {β : Type} {R R' : Value → β → Prop} (h : ∀ v b, R v b → R' v b) : ∀ {us : List Value} {bs : List β}, PySem.W.EachIs R us bs → PySem.W.EachIs R' us bs
  | _, _, .nil => .nil
  | _, _, .cons a t => .cons (h _ _ a) (each_impD h t)
section
variable {X : Cx} {B : Bas}
theorem da_paired {K : PySem.W.Frag} {S : Hp} : ∀ {xs : List V} {ds : List PyData}, DaAll K S xs ds → Paired (Da K S) xs ds
  | _, _, .nil => .nil
  | _, _, .cons h r => .cons h (da_paired r)
theorem paired_da {K : PySem.W.Frag} {S : Hp} : ∀ {xs : List V} {ds : List PyData}, Paired (Da K S) xs ds → DaAll K S xs ds
  | _, _, .nil => .nil
  | _, _, .cons h r => .cons h (paired_da r)
def rSortD (K : PySem.W.Frag) : List V → Hp → VK → Prop := fun vs H Q => ∃ (a : Addr) (xs : List V) (ds : List PyData) (R : V → PyData → Prop), vs = [.ref a] ∧ SqL K H a xs ∧ Paired (fun x b => Da K H x b ∧ R x b) xs ds ∧ PySem.W.AllAlike ds ∧ PySem.W.Sortable ds ∧
  (∀ d ∈ ds, d.depth ≤ 60) ∧ ∀ (ys : List V) (p : Addr), Paired R ys (ds.mergeSort (PySem.W.dataLe false id)) → H p = none → Q (.ref p) (upd H p (.lst ys))
theorem cr_sortD (hu : X.A.units + 64 < cLine) : CallR X (.builtin "sorted") (rSortD X.K) := by
  intro pins s σ H vs us Q I r h
  obtain ⟨a, xs, ds, R, rfl, hs, hp, hal, hk, hd, q⟩ := h
  obtain ⟨its, rv, hl, hz⟩ := I.list hs
  rw [Vals.ref1 r]
  have e0 := each_of_pairedD rv hp
  have e1 : PySem.W.EachIs (fun v b => ∃ x, RelV x v ∧ R x b) its ds := each_impD (fun v b ⟨x, r, _, h⟩ => ⟨x, r, h⟩) e0
  have er : PySem.W.EachIs (fun v b => ∃ as, Reads s.heap v (id b) as) its ds := each_impD (fun v b ⟨x, r, h, _⟩ => h.reads I r) e0
  have hlen : ds.length ≤ sizeLine := by rw [← e1.length, ← rv.length]; exact hz
  refine PySem.W.sorted_data (enc := id) hl.isList e1 er (by rw [List.map_id]; exact hal) (by rw [List.map_id]; exact hk) hlen (fun b hb => by have := hd b hb; show _ + 2 + b.depth < _; omega) fun out ho eo => ?_
  obtain ⟨ys, vy, py⟩ := each_backD eo
  obtain ⟨ep, he'⟩ := PyProof.Rows.sortedAll_at s.heap its out.toArray
  have hly : ys.length ≤ sizeLine := by rw [vy.length, ho]; exact hlen
  exact ⟨.ref _, upd H (s.heap.objs.size + 1) (.lst ys), I.laid (t' := s.toks) (fun _ _ => PyProof.Rows.sortedAll_old) (Nat.le_succ _) ⟨hly, out, ep, vy, he'⟩, rfl, q ys _ py (I.hok.fresh (Nat.le_succ _))⟩
end
def gSortD (ds : List PyData) (k : Rv → Prop) : Prop := match ds with
  | [.list es] => (PySem.W.AllAlike es ∧ PySem.W.Sortable es ∧ (∀ d ∈ es, d.depth ≤ 60) ∧ plDs es = true) ∧ k (.o (.list (es.mergeSort (PySem.W.dataLe false id))))
  | _ => False
theorem dx_paired {K : KW} {S H : Hp} (s : Sub S H) : ∀ {xs : List V} {ds : List PyData}, DxAll K S xs ds → plDs ds = true → Paired (fun x b => Da K.K H x b ∧ Dx K S x b) xs ds
  | _, _, .nil, _ => .nil
  | _, _, .cons h r, e => by
    rw [plDs, Bool.and_eq_true] at e
    exact .cons ⟨(da_sub s h).da e.1, h⟩ (dx_paired s r e.2)
theorem paired_dx {K : KW} {S : Hp} : ∀ {xs : List V} {ds : List PyData}, Paired (Dx K S) xs ds → DxAll K S xs ds
  | _, _, .nil => .nil
  | _, _, .cons h r => .cons h (paired_dx r)
theorem cg_sortD {B : Bas} : CallG B (rSortD B.K.K) gSortD := fun S H vs ds k Q s hall g f => by
  rcases ds with _ | ⟨d, _ | ⟨d2, r⟩⟩
  · exact g.elim
  · obtain ⟨v, rfl, hd⟩ := cg_one hall
    cases hd with
    | @lst a xs es h r => exact ⟨a, xs, es, Dx B.K S, rfl, sqL_sub s h, dx_paired s r g.1.2.2.2, g.1.1, g.1.2.1, g.1.2.2.1, fun ys p hp np => fin_l s f g.2 (paired_dx hp) p np⟩
    | _ => exact g.elim
  · cases d <;> exact g.elim
theorem zo_sortD {es : List PyData} {k : Rv → Prop} (h : PySem.W.AllAlike es ∧ PySem.W.Sortable es ∧ (∀ d ∈ es, d.depth ≤ 60) ∧ plDs es = true) (q : k (.o (.list (es.mergeSort (PySem.W.dataLe false id))))) : gSortD [.list es] k := ⟨h, q⟩
end Kf

set_option Elab.async false
set_option linter.all false
set_option maxRecDepth 100000
set_option maxHeartbeats 2000000
namespace Kf
open PySem PySem.Spec PyProof.Rows L2 LamX NdefX
/-! ## comprehensions and loops of readings, by items -/
def itK (b : Bool) (te : TV) (k1 : PyData → EnvD → Prop) (k0 : EnvD → Prop) (E : EnvD) : Prop := if b = true then te E (fun rv E3 => rv.toD k1 E3) else k0 E
section
variable {tg : TGD} {tt : TTd} {te : TV} {vs : List Nat} {R : Rv → EnvD → Prop} {E E0 : EnvD} {tb : TSD} {D : EndD}
theorem z_itT {e : Option Rv} {E : EnvD} {k1 : PyData → EnvD → Prop} {k0 : EnvD → Prop} : itK true te k1 k0 (e :: E) = te (e :: E) fun rv E3 => rv.toD k1 E3 := propext Iff.rfl
theorem z_itF {k1 : PyData → EnvD → Prop} {k0 : EnvD → Prop} : itK false te k1 k0 E = k0 E := propext Iff.rfl
theorem itK_b {b : Bool} {k1 : PyData → EnvD → Prop} {k0 : EnvD → Prop} (h1 : b = true → te E fun rv E3 => rv.toD k1 E3) (h2 : b = false → k0 E) : itK b te k1 k0 E := by
  cases b
  · exact h2 rfl
  · exact h1 rfl
theorem compR_of {α : Type} (enc : α → PyData) (f : α → Option PyData) {R : List PyData → EnvD → Prop} : ∀ {xs : List α} {acc : List PyData},
    (∀ x ∈ xs, ∀ (k1 : PyData → EnvD → Prop) (k0 : EnvD → Prop), (∀ y, f x = some y → ∀ E3, wipeE E3 vs = E0 → k1 y E3) → (f x = none → ∀ E2, wipeE E2 vs = E0 → k0 E2) → tg (enc x) E0 fun E1 => tt E1 fun b E2 => itK b te k1 k0 E2) →
    acc.length + xs.length ≤ 100000 → R (acc ++ xs.filterMap f) E0 → compT tg tt te vs (xs.map enc) acc E0 R
  | [], acc, _, _, r => by simpa [compT] using r
  | x :: r, acc, h, hl, q => by
    rw [List.map_cons]
    unfold compT
    refine h x (List.mem_cons_self ..) _ _ (fun y e E3 hw => ⟨by simp at hl; rw [sizeLine_eq]; omega, ?_⟩) (fun e E2 hw => ?_)
    · rw [hw]
      refine compR_of enc f (fun x' m => h x' (List.mem_cons_of_mem _ m)) (by simp at hl ⊢; omega) ?_
      rw [List.filterMap_cons, e] at q
      simpa using q
    · rw [hw]
      refine compR_of enc f (fun x' m => h x' (List.mem_cons_of_mem _ m)) (by simp at hl ⊢; omega) ?_
      rw [List.filterMap_cons, e] at q
      exact q
/-- [e for target in xs if t] -/
theorem comp_fm {α : Type} (enc : α → PyData) (f : α → Option PyData) {xs : List α} (hl : xs.length ≤ 100000)
    (h : ∀ x ∈ xs, ∀ (k1 : PyData → EnvD → Prop) (k0 : EnvD → Prop), (∀ y, f x = some y → ∀ E3, wipeE E3 vs = wipeE E vs → k1 y E3) → (f x = none → ∀ E2, wipeE E2 vs = wipeE E vs → k0 E2) → tg (enc x) (wipeE E vs) fun E1 => tt E1 fun b E2 => itK b te k1 k0 E2)
    (q : R (.o (.list (xs.filterMap f))) (backE E (wipeE E vs) vs)) : compK tg tt te vs (xs.map enc) R E := by
  unfold compK
  exact compR_of (R := fun acc E2 => R (.o (.list acc)) (backE E E2 vs)) enc f h (by simp; omega) q
/-- [e for target in xs] -/
theorem comp_map {α : Type} (enc : α → PyData) (g : α → PyData) {xs : List α} (hl : xs.length ≤ 100000)
    (h : ∀ x ∈ xs, ∀ (k1 : PyData → EnvD → Prop), (∀ E3, wipeE E3 vs = wipeE E vs → k1 (g x) E3) → tg (enc x) (wipeE E vs) fun E1 => te E1 fun rv E3 => rv.toD k1 E3)
    (q : R (.o (.list (xs.map g))) (backE E (wipeE E vs) vs)) : compK tg dYes te vs (xs.map enc) R E := by
  refine comp_fm enc (fun x => some (g x)) hl (fun x hx k1 k0 q1 q0 => ?_) (by simpa using q)
  exact h x hx k1 (q1 _ rfl)
/-- [e for target in xs if t] -/
theorem comp_filter {α : Type} (enc : α → PyData) (p : α → Bool) (g : α → PyData) {xs : List α} (hl : xs.length ≤ 100000)
    (h : ∀ x ∈ xs, ∀ (k1 : PyData → EnvD → Prop) (k0 : EnvD → Prop), (p x = true → ∀ E3, wipeE E3 vs = wipeE E vs → k1 (g x) E3) → (p x = false → ∀ E2, wipeE E2 vs = wipeE E vs → k0 E2) → tg (enc x) (wipeE E vs) fun E1 => tt E1 fun b E2 => itK b te k1 k0 E2)
    (q : R (.o (.list ((xs.filter p).map g))) (backE E (wipeE E vs) vs)) : compK tg tt te vs (xs.map enc) R E := by
  refine comp_fm enc (fun x => if p x then some (g x) else none) hl (fun x hx k1 k0 q1 q0 => ?_) ?_
  · refine h x hx k1 k0 (fun hp => q1 _ (by rw [if_pos hp])) (fun hp => q0 (by rw [if_neg (by rw [hp]; nofun)]))
  · have e : xs.filterMap (fun x => if p x then some (g x) else none) = (xs.filter p).map g := by
      clear h q hl
      induction xs with
      | nil => rfl
      | cons x r ih =>
        rw [List.filterMap_cons, List.filter_cons]
        cases p x <;> simp [ih]
    rw [e]
    exact q
/-- for target in xs -/
theorem for_inv {α : Type} (enc : α → PyData) (I : Nat → EnvD → Prop) {xs : List α} (h0 : I 0 E)
    (h : ∀ (i : Nat) (x : α), xs[i]? = some x → ∀ E, I i E → ∀ N : EnvD → Prop, (∀ E', I (i + 1) E' → N E') → tg (enc x) E fun E1 => tb ⟨N, D.rt, D.nx, N, D.rs⟩ E1)
    (hn : ∀ E, I xs.length E → D.nx E) : forT tg tb (xs.map enc) D E := by
  induction xs generalizing I E with
  | nil => exact hn E h0
  | cons x r ih =>
    rw [List.map_cons]
    unfold forT
    exact h 0 x rfl E h0 _ fun E' hE' => ih (fun i => I (i + 1)) hE' (fun i y hy => h (i + 1) y hy) hn
theorem for_nat (I : Nat → EnvD → Prop) {n : Nat} (h0 : I 0 E)
    (h : ∀ i, i < n → ∀ E, I i E → ∀ N : EnvD → Prop, (∀ E', I (i + 1) E' → N E') → tg (.int (i : Int)) E fun E1 => tb ⟨N, D.rt, D.nx, N, D.rs⟩ E1)
    (hn : ∀ E, I n E → D.nx E) : forT tg tb (rangeD 0 n) D E := by
  have e : rangeD 0 n = (List.range n).map fun (i : Nat) => PyData.int (i : Int) := by
    unfold rangeD
    refine List.map_congr_left fun i _ => ?_
    rw [Int.zero_add]
  rw [e]
  refine for_inv (fun (i : Nat) => PyData.int (i : Int)) I h0 (fun i x hx E hE N hN => ?_) (fun E hE => hn E (by simpa using hE))
  have hi : i < n := by
    have := (List.getElem?_eq_some_iff.mp hx).1
    simpa using this
  have ex : x = i := by
    obtain ⟨_, h2⟩ := List.getElem?_eq_some_iff.mp hx
    simpa using h2.symm
  rw [ex]
  exact h i hi E hE N hN
/-- .. over what is data already -/
theorem for_data (I : Nat → EnvD → Prop) {ds : List PyData} (h0 : I 0 E)
    (h : ∀ (i : Nat) (x : PyData), ds[i]? = some x → ∀ E, I i E → ∀ N : EnvD → Prop, (∀ E', I (i + 1) E' → N E') → tg x E fun E1 => tb ⟨N, D.rt, D.nx, N, D.rs⟩ E1)
    (hn : ∀ E, I ds.length E → D.nx E) : forT tg tb ds D E := by
  have := for_inv (tg := tg) (tb := tb) (D := D) (E := E) (xs := ds) id I h0 h hn
  simpa using this
theorem comp_mapD (g : PyData → PyData) {xs : List PyData} (hl : xs.length ≤ 100000)
    (h : ∀ x ∈ xs, ∀ (k1 : PyData → EnvD → Prop), (∀ E3, wipeE E3 vs = wipeE E vs → k1 (g x) E3) → tg x (wipeE E vs) fun E1 => te E1 fun rv E3 => rv.toD k1 E3)
    (q : R (.o (.list (xs.map g))) (backE E (wipeE E vs) vs)) : compK tg dYes te vs xs R E := by
  have := comp_map (tg := tg) (te := te) (R := R) (xs := xs) id g hl h q
  simpa using this
end
/-! ### slices -/
theorem cut_upto {α : Type} (ds : List α) (n : Nat) : cutD ds none (some (n : Int)) = ds.take n := by
  unfold cutD
  rw [HT.sIx_none, HT.sIx_nat, List.drop_zero, Nat.sub_zero]
  rcases Nat.le_total n ds.length with h | h
  · rw [Nat.min_eq_left h]
  · rw [Nat.min_eq_right h, List.take_of_length_le (Nat.le_refl _), List.take_of_length_le h]
theorem cut_onto {α : Type} (ds : List α) (n : Nat) : cutD ds (some (n : Int)) none = ds.drop n := by
  unfold cutD
  rw [HT.sIx_none, HT.sIx_nat]
  rcases Nat.le_total n ds.length with h | h
  · rw [Nat.min_eq_left h, List.take_of_length_le (by simp)]
  · rw [Nat.min_eq_right h, List.drop_of_length_le (Nat.le_refl _), List.drop_of_length_le h, List.take_nil]
theorem cut_between {α : Type} (ds : List α) (m n : Nat) : cutD ds (some (m : Int)) (some (n : Int)) = (ds.take n).drop m := by
  unfold cutD
  rw [HT.sIx_nat, HT.sIx_nat, List.drop_take]
  rcases Nat.le_total m ds.length with h | h
  · rw [Nat.min_eq_left h]
    rcases Nat.le_total n ds.length with h2 | h2
    · rw [Nat.min_eq_left h2]
    · rw [Nat.min_eq_right h2, List.take_of_length_le (by simp), List.take_of_length_le (by simp; omega)]
  · rw [Nat.min_eq_right h, List.drop_of_length_le (Nat.le_refl _), List.drop_of_length_le h, List.take_nil, List.take_nil]
theorem cut_last {α : Type} (ds : List α) : cutD ds (some (-1)) none = ds.drop (ds.length - 1) := by
  unfold cutD
  rw [HT.sIx_none]
  have e : HT.sIx ds.length 0 (some (-1)) = ds.length - 1 := by
    show (if (-1 : Int) < 0 then ((-1 : Int) + (ds.length : Int)).toNat else min (-1 : Int).toNat ds.length) = _
    rw [if_pos (by decide)]
    omega
  rw [e, List.take_of_length_le (by simp)]
theorem cut_all {α : Type} (ds : List α) : cutD ds none none = ds := by
  unfold cutD
  rw [HT.sIx_none, HT.sIx_none, List.drop_zero, Nat.sub_zero, List.take_of_length_le (Nat.le_refl _)]
end Kf

set_option Elab.async false
set_option linter.all false
set_option maxRecDepth 100000
set_option maxHeartbeats 2000000
namespace Kf
open PySem PySem.Spec PyProof.Rows L2 LamX NdefX
/-! ## pure: names, small things -/
/-- a name -/
structure NmOk (z : Str) : Prop where
  lo : 1 ≤ z.length
  hi : z.length ≤ 6
  low : ∀ c ∈ z.cps.toList, 97 ≤ c ∧ c ≤ 122
def lettersS : Str := "abcdefghijklmnopqrstuvwxyz"
theorem letters_toList : lettersS.cps.toList = (List.range 26).map (· + 97) := by decide +kernel
theorem mem_letters {c : Nat} : c ∈ lettersS.cps.toList ↔ 97 ≤ c ∧ c ≤ 122 := by
  rw [letters_toList, List.mem_map]
  constructor
  · rintro ⟨a, ha, rfl⟩
    have := List.mem_range.mp ha
    omega
  · intro h
    exact ⟨c - 97, List.mem_range.mpr (by omega), by omega⟩
def lowQ (z : Str) : Bool := z.cps.toList.all fun c => decide (c ∈ lettersS.cps.toList)
def nmQ : PyData → Bool
  | .str z => decide (1 ≤ z.length) && decide (z.length ≤ 6) && lowQ z
  | _ => false
theorem nmQ_iff {z : Str} : nmQ (.str z) = true ↔ NmOk z := by
  simp only [nmQ, Bool.and_eq_true, decide_eq_true_eq, lowQ, List.all_eq_true]
  constructor
  · rintro ⟨⟨h1, h2⟩, h3⟩
    exact ⟨h1, h2, fun c hc => mem_letters.mp (h3 c hc)⟩
  · rintro ⟨h1, h2, h3⟩
    exact ⟨⟨h1, h2⟩, fun c hc => mem_letters.mpr (h3 c hc)⟩
theorem bools_map {α : Type} (f : α → Bool) : ∀ l : List α, boolsOf (l.map fun x => .bool (f x)) = some (l.map f)
  | [] => rfl
  | x :: r => by simp [boolsOf, bools_map f r]
theorem zo_all {α : Type} {f : α → Bool} {l : List α} {k : Rv → Prop} (q : k (.d (.bool (l.all f)))) : gAll [.list (l.map fun x => .bool (f x))] k := by
  show (match boolsOf (l.map fun x => .bool (f x)) with | some bs => k (.d (.bool (bs.all id))) | none => False)
  rw [bools_map]
  simpa [List.all_map, Function.comp_def] using q
theorem zo_any {α : Type} {f : α → Bool} {l : List α} {k : Rv → Prop} (q : k (.d (.bool (l.any f)))) : gAny [.list (l.map fun x => .bool (f x))] k := by
  show (match boolsOf (l.map fun x => .bool (f x)) with | some bs => k (.d (.bool (bs.any id))) | none => False)
  rw [bools_map]
  simpa [List.any_map, Function.comp_def] using q
theorem zo_lenS {z : Str} {k : Rv → Prop} (h : z.length ≤ 100000) (q : k (.d (.int z.length))) : gLen [.str z] k := ⟨by rw [sizeLine_eq]; omega, q⟩
theorem zo_lenD {xs : List (PyData × PyData)} {k : Rv → Prop} (q : k (.d (.int xs.length))) : gLen [.dict xs] k := q
theorem zo_inS {c : Nat} {z : Str} {k : Rv → Prop} (q : k (.d (.bool (decide (c ∈ z.cps.toList))))) : gIn false (.str ⟨#[c]⟩) (.str z) k := ⟨c, rfl, q⟩
theorem zo_notInS {c : Nat} {z : Str} {k : Rv → Prop} (q : k (.d (.bool (!decide (c ∈ z.cps.toList))))) : gIn true (.str ⟨#[c]⟩) (.str z) k := ⟨c, rfl, q⟩
theorem zo_inT {d : PyData} {es : List PyData} {k : Rv → Prop} (h : (nodct d = true ∨ nodcts es = true) ∧ dpDs es ≤ 60 ∧ plD d = true ∧ plDs es = true) (q : k (.d (.bool (es.any fun z => eqP z d)))) : gIn false d (.tuple es) k := ⟨h.1, h.2, q⟩
theorem zo_inL {d : PyData} {es : List PyData} {k : Rv → Prop} (h : (nodct d = true ∨ nodcts es = true) ∧ dpDs es ≤ 60 ∧ plD d = true ∧ plDs es = true) (q : k (.d (.bool (es.any fun z => eqP z d)))) : gIn false d (.list es) k := ⟨h.1, h.2, q⟩
theorem zo_notInL {d : PyData} {es : List PyData} {k : Rv → Prop} (h : (nodct d = true ∨ nodcts es = true) ∧ dpDs es ≤ 60 ∧ plD d = true ∧ plDs es = true) (q : k (.d (.bool (!es.any fun z => eqP z d)))) : gIn true d (.list es) k := ⟨h.1, h.2, q⟩
theorem zo_notInT {d : PyData} {es : List PyData} {k : Rv → Prop} (h : (nodct d = true ∨ nodcts es = true) ∧ dpDs es ≤ 60 ∧ plD d = true ∧ plDs es = true) (q : k (.d (.bool (!es.any fun z => eqP z d)))) : gIn true d (.tuple es) k := ⟨h.1, h.2, q⟩
theorem zo_ixS {z : Str} {c m : Nat} {k : Rv → Prop} (h : z.length ≤ 100000) (h2 : z.cps.toList[m]? = some c) (q : k (.d (.str ⟨#[c]⟩))) : gIx (.str z) (.int (m : Int)) k := by
  refine ⟨by rw [sizeLine_eq]; omega, ?_⟩
  rw [atI_get h2]
  exact q
theorem zo_addS {x y : Str} {k : Rv → Prop} (h : x.length + y.length ≤ 100000) (q : k (.d (.str (x ++ y)))) : gAdd (.str x) (.str y) k := ⟨by rw [sizeLine_eq]; omega, q⟩
theorem zo_eqD {d e : PyData} {k : Rv → Prop} (h : dpD d ≤ 60 ∧ plD d = true ∧ plD e = true) (q : k (.d (.bool (eqP d e)))) : gEq d e k := ⟨h, q⟩
theorem zo_neD {d e : PyData} {k : Rv → Prop} (h : (isDct d = false ∧ isDct e = false ∧ (nodct d = true ∨ nodct e = true) ∧ dpD d ≤ 60) ∧ plD d = true ∧ plD e = true) (q : k (.d (.bool (!eqP d e)))) : gNe d e k := ⟨h, q⟩
theorem slK_str {z : Str} {l u : Option Int} {R : Rv → EnvD → Prop} {E : EnvD} (h : z.length ≤ 100000) (k : R (.d (.str (Txt.slice z l u))) E) : slK (.str z) l u R E := ⟨by rw [sizeLine_eq]; omega, k⟩
theorem len_cps (z : Str) : z.cps.toList.length = z.length := by simp [Str.length]
end Kf

set_option Elab.async false
set_option linter.all false
set_option maxRecDepth 100000
set_option maxHeartbeats 2000000
namespace Kf
open PySem PySem.Spec PyProof.Rows L2 LamX NdefX
section
variable {K : KW} {mg : Str → Option Value} {base : Heap}
/-! ### is_name -/
def t_is_name : TSD := (sSeq (sIf (dOr (dNot (dTru (dIsi isStrD (dVar 0)))) (dNot (dChain gLe gLe (dC (.int 1)) (dCallO gLen 0) (dC (.int 6)))))
 (sRet (dC (.bool false)))
 sNext)
 (sRet (dCall gAll (dCons (dComp (dSigns (dVar 0)) (dName 1) dYes (dOp (gIn false) (dVar 1) (dC (.str "abcdefghijklmnopqrstuvwxyz"))) [1]) dNil))))
def f_is_name : List Rv → (Rv → Prop) → Prop := defT 2 t_is_name
theorem dok_is_name {f : Addr} {fd : FuncData} {Tb : List NTab} (F : L2.Fun K.K "is_name" "is_name" s_is_name f fd) (T : Nm mg) (c_LETTERS : GC mg "LETTERS" (.str "abcdefghijklmnopqrstuvwxyz")) (c_MOST_LETTERS : GC mg "MOST_LETTERS" (.int 6)) : FnOk K.P K.w K.K mg base CX0 1 f fd ["value"] (spT Tb K 1 f_is_name) :=
  fnok F sc_is_name (fun cdv A outer s H E B hK hT hG hr => by
    subst hK hT
    have hu := hu_of hr
    have hu65 := hr.u65
    have hu64 := hr.units
    have hng := ng_of hG
    exact (es_cons (es_if (PW.pt (ew_or (et_not (et_tru (ev_isi rfl T.n_isinstance (by rfl) (pe_bltn (v := .ty "str") (by rfl) T.n_str (by decide +kernel) rfl) kI_str (ev_name (pv 0))) rfl)) (ew_or1 (et_not (et_chain op_le og_le op_le og_le ev_int (ev_callO call_lenA cg_len (by rfl) T.n_len (by decide +kernel) (pv 0)) (ev_const (pe_gc (by rfl) c_MOST_LETTERS) (fun _ => .int _)))))))
 (es_one (es_ret ev_bl))
 es_nil)
 (es_one (es_ret (ev_callB (cr_all rfl) cg_all (by rfl) T.n_all (by decide +kernel) (ea_cons (ev_lc id_str gd_name (by decide) (pe_lc (own := [("letter", 1)]) (g := gName 1) (by rfl) sc_is_name.nd (pi_str (ev_D (ev_name (pv 0)))) (blkOk_by (own := [("letter", 1)]) (N := ["value", "letter"]) (sc := defScope s_is_name) (by decide +kernel)) (fun _ _ _ _ _ => (pg_name (i := 1) sc_is_name.nd rfl (.inl rfl))) (fun _ _ _ _ _ => et_yes) (fun _ _ _ _ _ => ev_D (ev_cmp (op_inAll hu65) og_in (ev_name (pv 1)) (ev_const (pe_gc (by rfl) c_LETTERS) (fun _ => .str _)) (by with_unfolding_all rfl))))) ea_nil))))))
/-! ### is_integer -/
def t_is_integer : TSD := (sRet (dAndV (dIsi isIntD (dVar 0)) (dNotV (dIsi isBoolD (dVar 0)))))
def f_is_integer : List Rv → (Rv → Prop) → Prop := defT 1 t_is_integer
theorem dok_is_integer {f : Addr} {fd : FuncData} {Tb : List NTab} (F : L2.Fun K.K "is_integer" "is_integer" s_is_integer f fd) (T : Nm mg) : FnOk K.P K.w K.K mg base CX0 1 f fd ["value"] (spT Tb K 1 f_is_integer) :=
  fnok F sc_is_integer (fun cdv A outer s H E B hK hT hG hr => by
    subst hK hT
    have hu := hu_of hr
    have hu65 := hr.u65
    have hu64 := hr.units
    have hng := ng_of hG
    exact (es_one (es_ret (ev_and (ev_isi rfl T.n_isinstance (by rfl) (pe_bltn (v := .ty "int") (by rfl) T.n_int (by decide +kernel) rfl) kI_int (ev_name (pv 0))) (ev_one (ev_not (ev_isi rfl T.n_isinstance (by rfl) (pe_bltn (v := .ty "bool") (by rfl) T.n_bool (by decide +kernel) rfl) kI_bool (ev_name (pv 0)))))))))
/-! ### is_list -/
def t_is_list : TSD := (sRet (dIsi (fun d => isLstD d || isTupD d) (dVar 0)))
def f_is_list : List Rv → (Rv → Prop) → Prop := defT 1 t_is_list
theorem dok_is_list {f : Addr} {fd : FuncData} {Tb : List NTab} (F : L2.Fun K.K "is_list" "is_list" s_is_list f fd) (T : Nm mg) : FnOk K.P K.w K.K mg base CX0 1 f fd ["value"] (spT Tb K 1 f_is_list) :=
  fnok F sc_is_list (fun cdv A outer s H E B hK hT hG hr => by
    subst hK hT
    have hu := hu_of hr
    have hu65 := hr.u65
    have hu64 := hr.units
    have hng := ng_of hG
    exact (es_one (es_ret (ev_isi2 rfl T.n_isinstance (by rfl) (pe_bltn (v := .ty "list") (by rfl) T.n_list (by decide +kernel) rfl) (pe_bltn (v := .ty "tuple") (by rfl) T.n_tuple (by decide +kernel) rfl) kI_lst kI_tup (ev_name (pv 0))))))
/-! ### is_event -/
def t_is_event : TSD := (sSeq (sIf (dOr (dNot (dTru (dIsi isTupD (dVar 0)))) (dTb (dOp gNe (dCallO gLen 0) (dC (.int 2)))))
 (sRet (dC (.bool false)))
 sNext)
 (sRet (dAndV (dOp (gIn false) (dOp gIx (dVar 0) (dC (.int 0))) (dTup (dCons (dC (.str "fail")) (dCons (dC (.str "mend")) dNil)))) (dOp (gIn false) (dOp gIx (dVar 0) (dC (.int 1))) (dVar 1)))))
def f_is_event : List Rv → (Rv → Prop) → Prop := defT 2 t_is_event
theorem dok_is_event {f : Addr} {fd : FuncData} {Tb : List NTab} (F : L2.Fun K.K "is_event" "is_event" s_is_event f fd) (T : Nm mg) : FnOk K.P K.w K.K mg base CX0 1 f fd ["value", "parts"] (spT Tb K 2 f_is_event) :=
  fnok F sc_is_event (fun cdv A outer s H E B hK hT hG hr => by
    subst hK hT
    have hu := hu_of hr
    have hu65 := hr.u65
    have hu64 := hr.units
    have hng := ng_of hG
    exact (es_cons (es_if (PW.pt (ew_or (et_not (et_tru (ev_isi rfl T.n_isinstance (by rfl) (pe_bltn (v := .ty "tuple") (by rfl) T.n_tuple (by decide +kernel) rfl) kI_tup (ev_name (pv 0))) rfl)) (ew_or1 (et_cmp (op_NeP hu64) og_ne (ev_callO call_lenA cg_len (by rfl) T.n_len (by decide +kernel) (pv 0)) ev_int (nomark _)))))
 (es_one (es_ret ev_bl))
 es_nil)
 (es_one (es_ret (ev_and (ev_cmp (op_inAll hu65) og_in (ev_ix (ix_all hu65) og_ix (ev_name (pv 0)) ev_int (fun _ _ => rfl)) (ev_tup (ea_cons ev_str (ea_cons ev_str ea_nil))) (by with_unfolding_all rfl)) (ev_one (ev_cmp (op_inAll hu65) og_in (ev_ix (ix_all hu65) og_ix (ev_name (pv 0)) ev_int (fun _ _ => rfl)) (ev_name (pv 1)) (by with_unfolding_all rfl))))))))
/-! ### are_ascending -/
def t_are_ascending : TSD := (sRet (dCall gAll (dCons (dComp (dRange2 (dCons (dC (.int 1)) (dCons (dCallO gLen 0) dNil))) (dName 1) dYes (dOp gLtD (dOp gIx (dVar 0) (dOp gMinus (dVar 1) (dC (.int 1)))) (dOp gIx (dVar 0) (dVar 1))) [1]) dNil)))
def f_are_ascending : List Rv → (Rv → Prop) → Prop := defT 2 t_are_ascending
theorem dok_are_ascending {f : Addr} {fd : FuncData} {Tb : List NTab} (F : L2.Fun K.K "are_ascending" "are_ascending" s_are_ascending f fd) (T : Nm mg) : FnOk K.P K.w K.K mg base CX0 1 f fd ["values"] (spT Tb K 1 f_are_ascending) :=
  fnok F sc_are_ascending (fun cdv A outer s H E B hK hT hG hr => by
    subst hK hT
    have hu := hu_of hr
    have hu65 := hr.u65
    have hu64 := hr.units
    have hng := ng_of hG
    exact (es_one (es_ret (ev_callB (cr_all rfl) cg_all (by rfl) T.n_all (by decide +kernel) (ea_cons (ev_lc id_range2 gd_name (by decide) (pe_lc (own := [("at", 1)]) (g := gName 1) (by rfl) sc_are_ascending.nd (pi_range2 rfl T.n_range (ea_cons ev_int (ea_cons (ev_callO call_lenA cg_len (by rfl) T.n_len (by decide +kernel) (pv 0)) ea_nil))) (blkOk_by (own := [("at", 1)]) (N := ["values", "at"]) (sc := defScope s_are_ascending) (by decide +kernel)) (fun _ _ _ _ _ => (pg_name (i := 1) sc_are_ascending.nd rfl (.inl rfl))) (fun _ _ _ _ _ => et_yes) (fun _ _ _ _ _ => ev_D (ev_cmp (op_ltD hu64) og_cmpD (ev_ix (ix_all hu65) og_ix (ev_name (pv 0)) (ev_op op_sub og_sub (ev_name (pv 1)) ev_int) (fun _ _ => rfl)) (ev_ix (ix_all hu65) og_ix (ev_name (pv 0)) (ev_name (pv 1)) (fun _ _ => rfl)) (nomark _))))) ea_nil)))))
/-! ### are_names -/
def t_are_names : TSD := (sSeq (sIf (dOr (dNot (dTru (dIsi isTupD (dVar 0)))) (dNot (dChain gLe gLe (dC (.int 1)) (dCallO gLen 0) (dC (.int 8)))))
 (sRet (dC (.bool false)))
 sNext)
 (sRet (dAndV (dCall gAll (dCons (dComp (dSq (dVar 0)) (dName 1) dYes (dCal 1 f_is_name (dCons (dVar 1) dNil)) [1]) dNil)) (dCal 1 f_are_ascending (dCons (dVar 0) dNil)))))
def f_are_names : List Rv → (Rv → Prop) → Prop := defT 2 t_are_names
theorem dok_are_names {f : Addr} {fd : FuncData} {Tb : List NTab} (F : L2.Fun K.K "are_names" "are_names" s_are_names f fd) (T : Nm mg) (c_MOST_PARTS : GC mg "MOST_PARTS" (.int 8)) (C_are_ascending : Cal K.P K.w K.K mg base 1 "are_ascending" ["values"] (spT Tb K 1 f_are_ascending)) (C_is_name : Cal K.P K.w K.K mg base 1 "is_name" ["value"] (spT Tb K 1 f_is_name)) : FnOk K.P K.w K.K mg base CX0 2 f fd ["value"] (spT Tb K 1 f_are_names) :=
  fnok F sc_are_names (fun cdv A outer s H E B hK hT hG hr => by
    subst hK hT
    have hu := hu_of hr
    have hu65 := hr.u65
    have hu64 := hr.units
    have hng := ng_of hG
    exact (es_cons (es_if (PW.pt (ew_or (et_not (et_tru (ev_isi rfl T.n_isinstance (by rfl) (pe_bltn (v := .ty "tuple") (by rfl) T.n_tuple (by decide +kernel) rfl) kI_tup (ev_name (pv 0))) rfl)) (ew_or1 (et_not (et_chain op_le og_le op_le og_le ev_int (ev_callO call_lenA cg_len (by rfl) T.n_len (by decide +kernel) (pv 0)) (ev_const (pe_gc (by rfl) c_MOST_PARTS) (fun _ => .int _)))))))
 (es_one (es_ret ev_bl))
 es_nil)
 (es_one (es_ret (ev_and (ev_callB (cr_all rfl) cg_all (by rfl) T.n_all (by decide +kernel) (ea_cons (ev_lc id_sq gd_name (by decide) (pe_lc (own := [("item", 1)]) (g := gName 1) (by rfl) sc_are_names.nd (pi_sq (ev_D (ev_name (pv 0)))) (blkOk_by (own := [("item", 1)]) (N := ["value", "item"]) (sc := defScope s_are_names) (by decide +kernel)) (fun _ _ _ _ _ => (pg_name (i := 1) sc_are_names.nd rfl (.inl rfl))) (fun _ _ _ _ _ => et_yes) (fun _ _ _ _ _ => ev_D (ev_cal C_is_name (by decide) hr (by rfl) (ea_cons (ev_name (pv 1)) ea_nil))))) ea_nil)) (ev_one (ev_cal C_are_ascending (by decide) hr (by rfl) (ea_cons (ev_name (pv 0)) ea_nil))))))))
/-! ### is_step -/
def t_is_step : TSD := (sSeq (sIf (dOr (dNot (dTru (dIsi isTupD (dVar 0)))) (dOr (dTb (dOp gNe (dCallO gLen 0) (dC (.int 2)))) (dNot (dTru (dCal 2 f_is_event (dCons (dOp gIx (dVar 0) (dC (.int 0))) (dCons (dVar 1) dNil)))))))
 (sRet (dC (.bool false)))
 sNext)
 (sRet (dAndV (dCal 1 f_is_integer (dCons (dOp gIx (dVar 0) (dC (.int 1))) dNil)) (dChainV gLe gLt (dC (.int 0)) (dOp gIx (dVar 0) (dC (.int 1))) (dVar 2)))))
def f_is_step : List Rv → (Rv → Prop) → Prop := defT 3 t_is_step
theorem dok_is_step {f : Addr} {fd : FuncData} {Tb : List NTab} (F : L2.Fun K.K "is_step" "is_step" s_is_step f fd) (T : Nm mg) (C_is_integer : Cal K.P K.w K.K mg base 1 "is_integer" ["value"] (spT Tb K 1 f_is_integer)) (C_is_event : Cal K.P K.w K.K mg base 1 "is_event" ["value", "parts"] (spT Tb K 2 f_is_event)) : FnOk K.P K.w K.K mg base CX0 2 f fd ["value", "parts", "many"] (spT Tb K 3 f_is_step) :=
  fnok F sc_is_step (fun cdv A outer s H E B hK hT hG hr => by
    subst hK hT
    have hu := hu_of hr
    have hu65 := hr.u65
    have hu64 := hr.units
    have hng := ng_of hG
    exact (es_cons (es_if (PW.pt (ew_or (et_not (et_tru (ev_isi rfl T.n_isinstance (by rfl) (pe_bltn (v := .ty "tuple") (by rfl) T.n_tuple (by decide +kernel) rfl) kI_tup (ev_name (pv 0))) rfl)) (ew_or (et_cmp (op_NeP hu64) og_ne (ev_callO call_lenA cg_len (by rfl) T.n_len (by decide +kernel) (pv 0)) ev_int (nomark _)) (ew_or1 (et_not (et_tru (ev_cal C_is_event (by decide) hr (by rfl) (ea_cons (ev_ix (ix_all hu65) og_ix (ev_name (pv 0)) ev_int (fun _ _ => rfl)) (ea_cons (ev_name (pv 1)) ea_nil))) rfl))))))
 (es_one (es_ret ev_bl))
 es_nil)
 (es_one (es_ret (ev_and (ev_cal C_is_integer (by decide) hr (by rfl) (ea_cons (ev_ix (ix_all hu65) og_ix (ev_name (pv 0)) ev_int (fun _ _ => rfl)) ea_nil)) (ev_one (ev_chain op_le og_le op_lt og_lt ev_int (ev_ix (ix_all hu65) og_ix (ev_name (pv 0)) ev_int (fun _ _ => rfl)) (ev_name (pv 2)))))))))
/-! ### is_row -/
def t_is_row : TSD := (sSeq (sIf (dOr (dNot (dTru (dIsi isTupD (dVar 0)))) (dOr (dTb (dOp gNe (dCallO gLen 0) (dC (.int 2)))) (dNot (dTru (dIsi isBoolD (dOp gIx (dVar 0) (dC (.int 0))))))))
 (sRet (dC (.bool false)))
 sNext)
 (sSeq (sIf (dOr (dNot (dTru (dIsi isTupD (dOp gIx (dVar 0) (dC (.int 1)))))) (dNot (dTru (dCall gAll (dCons (dComp (dSq (dOp gIx (dVar 0) (dC (.int 1)))) (dName 3) dYes (dCal 3 f_is_step (dCons (dVar 3) (dCons (dVar 1) (dCons (dVar 2) dNil)))) [3]) dNil)))))
 (sRet (dC (.bool false)))
 sNext)
 (sRet (dCal 1 f_are_ascending (dCons (dComp (dSq (dOp gIx (dVar 0) (dC (.int 1)))) (dTupG 2 (dConsG (dName 4) (dConsG (dName 5) dNilG))) dYes (dVar 4) [4, 5]) dNil)))))
def f_is_row : List Rv → (Rv → Prop) → Prop := defT 6 t_is_row
theorem dok_is_row {f : Addr} {fd : FuncData} {Tb : List NTab} (F : L2.Fun K.K "is_row" "is_row" s_is_row f fd) (T : Nm mg) (C_are_ascending : Cal K.P K.w K.K mg base 1 "are_ascending" ["values"] (spT Tb K 1 f_are_ascending)) (C_is_step : Cal K.P K.w K.K mg base 2 "is_step" ["value", "parts", "many"] (spT Tb K 3 f_is_step)) : FnOk K.P K.w K.K mg base CX0 3 f fd ["value", "parts", "many"] (spT Tb K 3 f_is_row) :=
  fnok F sc_is_row (fun cdv A outer s H E B hK hT hG hr => by
    subst hK hT
    have hu := hu_of hr
    have hu65 := hr.u65
    have hu64 := hr.units
    have hng := ng_of hG
    exact (es_cons (es_if (PW.pt (ew_or (et_not (et_tru (ev_isi rfl T.n_isinstance (by rfl) (pe_bltn (v := .ty "tuple") (by rfl) T.n_tuple (by decide +kernel) rfl) kI_tup (ev_name (pv 0))) rfl)) (ew_or (et_cmp (op_NeP hu64) og_ne (ev_callO call_lenA cg_len (by rfl) T.n_len (by decide +kernel) (pv 0)) ev_int (nomark _)) (ew_or1 (et_not (et_tru (ev_isi rfl T.n_isinstance (by rfl) (pe_bltn (v := .ty "bool") (by rfl) T.n_bool (by decide +kernel) rfl) kI_bool (ev_ix (ix_all hu65) og_ix (ev_name (pv 0)) ev_int (fun _ _ => rfl))) rfl))))))
 (es_one (es_ret ev_bl))
 es_nil)
 (es_cons (es_if (PW.pt (ew_or (et_not (et_tru (ev_isi rfl T.n_isinstance (by rfl) (pe_bltn (v := .ty "tuple") (by rfl) T.n_tuple (by decide +kernel) rfl) kI_tup (ev_ix (ix_all hu65) og_ix (ev_name (pv 0)) ev_int (fun _ _ => rfl))) rfl)) (ew_or1 (et_not (et_tru (ev_callB (cr_all rfl) cg_all (by rfl) T.n_all (by decide +kernel) (ea_cons (ev_lc id_sq gd_name (by decide) (pe_lc (own := [("item", 3)]) (g := gName 3) (by rfl) sc_is_row.nd (pi_sq (ev_D (ev_ix (ix_all hu65) og_ix (ev_name (pv 0)) ev_int (fun _ _ => rfl)))) (blkOk_by (own := [("item", 3)]) (N := ["value", "parts", "many", "item", "event", "_"]) (sc := defScope s_is_row) (by decide +kernel)) (fun _ _ _ _ _ => (pg_name (i := 3) sc_is_row.nd rfl (.inl rfl))) (fun _ _ _ _ _ => et_yes) (fun _ _ _ _ _ => ev_D (ev_cal C_is_step (by decide) hr (by rfl) (ea_cons (ev_name (pv 3)) (ea_cons (ev_name (pv 1)) (ea_cons (ev_name (pv 2)) ea_nil))))))) ea_nil)) rfl)))))
 (es_one (es_ret ev_bl))
 es_nil)
 (es_one (es_ret (ev_cal C_are_ascending (by decide) hr (by rfl) (ea_cons (ev_lc id_sq (gd_tup (gd_cons gd_name (gd_cons gd_name gd_nil))) (by decide) (pe_lc (own := [("event", 4), ("_", 5)])  (by rfl) sc_is_row.nd (pi_sq (ev_D (ev_ix (ix_all hu65) og_ix (ev_name (pv 0)) ev_int (fun _ _ => rfl)))) (blkOk_by (own := [("event", 4), ("_", 5)]) (N := ["value", "parts", "many", "item", "event", "_"]) (sc := defScope s_is_row) (by decide +kernel)) (fun _ _ _ _ _ => (pg_tup (n := 2) rfl (pgs_cons (pg_name (i := 4) sc_is_row.nd rfl (.inl rfl)) (pgs_cons (pg_name (i := 5) sc_is_row.nd rfl (.inl rfl)) pgs_nil)))) (fun _ _ _ _ _ => et_yes) (fun _ _ _ _ _ => ev_D (ev_name (pv 4))))) ea_nil)))))))
/-! ### are_rows -/
def t_are_rows : TSD := (sSeq (sIf (dOr (dNot (dTru (dIsi isTupD (dVar 0)))) (dNot (dTruO 0)))
 (sRet (dC (.bool false)))
 sNext)
 (sRet (dCall gAll (dCons (dComp (dSq (dVar 0)) (dName 2) dYes (dCal 3 f_is_row (dCons (dVar 2) (dCons (dVar 1) (dCons (dCallO gLen 0) dNil)))) [2]) dNil))))
def f_are_rows : List Rv → (Rv → Prop) → Prop := defT 3 t_are_rows
theorem dok_are_rows {f : Addr} {fd : FuncData} {Tb : List NTab} (F : L2.Fun K.K "are_rows" "are_rows" s_are_rows f fd) (T : Nm mg) (C_is_row : Cal K.P K.w K.K mg base 3 "is_row" ["value", "parts", "many"] (spT Tb K 3 f_is_row)) : FnOk K.P K.w K.K mg base CX0 4 f fd ["value", "parts"] (spT Tb K 2 f_are_rows) :=
  fnok F sc_are_rows (fun cdv A outer s H E B hK hT hG hr => by
    subst hK hT
    have hu := hu_of hr
    have hu65 := hr.u65
    have hu64 := hr.units
    have hng := ng_of hG
    exact (es_cons (es_if (PW.pt (ew_or (et_not (et_tru (ev_isi rfl T.n_isinstance (by rfl) (pe_bltn (v := .ty "tuple") (by rfl) T.n_tuple (by decide +kernel) rfl) kI_tup (ev_name (pv 0))) rfl)) (ew_or1 (et_not (et_truO (pv 0) rfl)))))
 (es_one (es_ret ev_bl))
 es_nil)
 (es_one (es_ret (ev_callB (cr_all rfl) cg_all (by rfl) T.n_all (by decide +kernel) (ea_cons (ev_lc id_sq gd_name (by decide) (pe_lc (own := [("item", 2)]) (g := gName 2) (by rfl) sc_are_rows.nd (pi_sq (ev_D (ev_name (pv 0)))) (blkOk_by (own := [("item", 2)]) (N := ["value", "parts", "item"]) (sc := defScope s_are_rows) (by decide +kernel)) (fun _ _ _ _ _ => (pg_name (i := 2) sc_are_rows.nd rfl (.inl rfl))) (fun _ _ _ _ _ => et_yes) (fun _ _ _ _ _ => ev_D (ev_cal C_is_row (by decide) hr (by rfl) (ea_cons (ev_name (pv 2)) (ea_cons (ev_name (pv 1)) (ea_cons (ev_callO call_lenA cg_len (by rfl) T.n_len (by decide +kernel) (pv 0)) ea_nil))))))) ea_nil))))))
end
end Kf

set_option Elab.async false
set_option linter.all false
set_option maxRecDepth 100000
set_option maxHeartbeats 2000000
namespace Kf
open PySem PySem.Spec PyProof.Rows L2 LamX NdefX
section
variable {K : KW} {mg : Str → Option Value} {base : Heap}
/-! ### Machine_play -/
def t_Machine_play (a_NoEvent a_Machine : Addr) : TSD := (sSeq (sIf (dNot (dTru (dCal 1 f_is_list (dCons (dVar 1) dNil))))
 (sRaise a_NoEvent "index" (dC (.int 0)))
 sNext)
 (sSeq (sSet 2 (dOp gIx (dAtt a_Machine "_rows" (dVar 0)) (dC (.int 0))))
 (sSeq (sSet 3 (dLst dNil))
 (sSeq (sFor (dEnum (dCons (dVar 1) dNil)) (dTupG 2 (dConsG (dName 4) (dConsG (dName 5) dNilG)))
 (sSeq (sSet 6 (dComp (dSq (dOp gIx (dVar 2) (dC (.int 1)))) (dTupG 2 (dConsG (dName 7) (dConsG (dName 8) dNilG))) (dTb (dOp gEq (dVar 7) (dVar 5))) (dVar 8) [7, 8]))
 (sSeq (sIf (dNot (dTruO 6))
 (sRaise a_NoEvent "index" (dVar 4))
 sNext)
 (sSeq (sSet 2 (dOp gIx (dAtt a_Machine "_rows" (dVar 0)) (dOp gIx (dVar 6) (dC (.int 0)))))
 (sDrop (dOwnM "list" gAppend 3 (dCons (dOp gIx (dVar 2) (dC (.int 0))) dNil)))))))
 (sRet (dMv 3))))))
def f_Machine_play (a_NoEvent a_Machine : Addr) : List Rv → (Rv → Prop) → (Addr → List (Str × PyData) → Prop) → Prop := defTX 9 (t_Machine_play a_NoEvent a_Machine)
theorem dok_Machine_play {a_NoEvent a_Machine : Addr} {f : Addr} {fd : FuncData} {Tb : List NTab} (F : L2.Fun K.K "play" "Machine.play" s_Machine_play f fd) (T : Nm mg) (M_NoEvent : FtMk K.P K.w K.K mg base 1 "NoEvent" a_NoEvent "index") (A_Machine : Cls K.K a_Machine) (N_Machine__rows : NoAttr K.K a_Machine "_rows") (C_is_list : Cal K.P K.w K.K mg base 1 "is_list" ["value"] (spT Tb K 1 f_is_list)) : FnOk K.P K.w K.K mg base (L2.CX K.P K.w) 3 f fd ["self", "events"] (spTX Tb K 2 (f_Machine_play a_NoEvent a_Machine)) :=
  fnokX F sc_Machine_play (fun cdv A outer s H E B hK hT hG tk hr => by
    subst hK hT
    have hu := hu_of hr
    have hu65 := hr.u65
    have hu64 := hr.units
    have hng := ng_of hG
    exact (es_cons (es_if (et_not (et_tru (ev_cal C_is_list (by decide) hr (by rfl) (ea_cons (ev_name (pv 1)) ea_nil)) rfl))
 (es_one (es_raise rfl tk M_NoEvent (by decide) hr (by rfl) ev_int))
 es_nil)
 (es_cons (es_set (hng 2 (by decide)) (ps_set (i := 2) sc_Machine_play.nd rfl (.inl rfl) (ev_ix (ix_all hu65) og_ix (ev_att rfl A_Machine N_Machine__rows (ev_name (pv 0))) ev_int (fun _ _ => rfl))))
 (es_cons (es_set (hng 3 (by decide)) (ps_set (i := 3) sc_Machine_play.nd rfl (.inl rfl) (ev_lst ea_nil)))
 (es_cons (es_for id_enum (gd_tup (gd_cons gd_name (gd_cons gd_name gd_nil))) (ps_for PassesOwn.leaving rfl (pi_enumQ (by rfl) T.n_enumerate (ea_cons (ev_name (pv 1)) ea_nil)) (pg_tup (n := 2) rfl (pgs_cons (pg_name (i := 4) sc_Machine_play.nd rfl (.inl rfl)) (pgs_cons (pg_name (i := 5) sc_Machine_play.nd rfl (.inr rfl)) pgs_nil)))
 (es_cons (es_setLc id_sq (gd_tup (gd_cons gd_name (gd_cons gd_name gd_nil))) (by decide) (hng 6 (by decide)) (ps_setLc (i := 6) (own := [("allowed", 7), ("index", 8)])  (by rfl) sc_Machine_play.nd rfl rfl (sw_true rfl rfl rfl (by decide +kernel)) (pi_sq (ev_D (ev_ix (ix_all hu65) og_ix (ev_name (pv 2)) ev_int (fun _ _ => rfl)))) (blkOk_by (own := [("allowed", 7), ("index", 8)]) (N := ["self", "events", "row", "told", "at", "event", "indexes", "allowed", "index"]) (sc := defScope s_Machine_play) (by decide +kernel)) (fun _ _ _ _ _ => (pg_tup (n := 2) rfl (pgs_cons (pg_name (i := 7) sc_Machine_play.nd rfl (.inl rfl)) (pgs_cons (pg_name (i := 8) sc_Machine_play.nd rfl (.inl rfl)) pgs_nil)))) (fun _ _ _ _ _ => (et_pone (et_cmp (op_EqP hu64) og_eq (ev_name (pv 7)) (ev_name (pv 5)) (nomark _)))) (fun _ _ _ _ _ => ev_D (ev_name (pv 8)))))
 (es_cons (es_if (et_not (et_truO (pv 6) rfl))
 (es_one (es_raise rfl tk M_NoEvent (by decide) hr (by rfl) (ev_name (pv 4))))
 es_nil)
 (es_cons (es_set (hng 2 (by decide)) (ps_set (i := 2) sc_Machine_play.nd rfl (.inl rfl) (ev_ix (ix_all hu65) og_ix (ev_att rfl A_Machine N_Machine__rows (ev_name (pv 0))) (ev_ix (ix_all hu65) og_ix (ev_name (pv 6)) ev_int (fun _ _ => rfl)) (fun _ _ => rfl))))
 (es_one (es_expr (ev_ownM rfl om_append (pe_bm PySem.F.plainAttrs_list PySem.F.slot_list_append PySem.F.type_list_append mt_append (pv 3) (ea_cons (ev_ix (ix_all hu65) og_ix (ev_name (pv 2)) ev_int (fun _ _ => rfl)) ea_nil))))))))))
 (es_one (es_ret (ev_mv (pv 3)))))))))
/-! ### Machine___init__ -/
def t_Machine___init__ (a_Machine a_BadMachine : Addr) (x : Addr) : TSI := (iSeq (iOf (sIf (dOr (dNot (dTru (dCal 1 f_are_names (dCons (dVar 1) dNil)))) (dNot (dTru (dCal 2 f_are_rows (dCons (dVar 2) (dCons (dVar 1) dNil))))))
 (sRaiseN a_BadMachine (dCons (dC (.str "the parts or the rows are not as documented")) dNil))
 sNext))
 (iSeq (iFld x "_parts" (dVar 1))
 (iFld x "_rows" (dVar 2))))
def f_Machine___init__ (a_Machine a_BadMachine : Addr) : List Rv → (Flds → Prop) → (Addr → Flds → Prop) → Prop := defI 3 (t_Machine___init__ a_Machine a_BadMachine)
theorem dok_Machine___init__ {a_Machine a_BadMachine : Addr} {f : Addr} {fd : FuncData} {Tb : List NTab} (F : L2.Fun K.K "__init__" "Machine.__init__" s_Machine___init__ f fd) (T : Nm mg) (M_BadMachine : FtN K.K mg "BadMachine" a_BadMachine) (A_Machine : Cls K.K a_Machine) (N_Machine__parts : NoAttr K.K a_Machine "_parts") (N_Machine__rows : NoAttr K.K a_Machine "_rows") (C_are_names : Cal K.P K.w K.K mg base 2 "are_names" ["value"] (spT Tb K 1 f_are_names)) (C_are_rows : Cal K.P K.w K.K mg base 4 "are_rows" ["value", "parts"] (spT Tb K 2 f_are_rows)) : FnOk K.P K.w K.K mg base (L2.CX K.P K.w) 5 f fd ["self", "parts", "rows"] (spIni Tb K a_Machine 2 (f_Machine___init__ a_Machine a_BadMachine)) :=
  fnokI F sc_Machine___init__ (fun x dx cdv A outer s H E B hK hT hG tk hr => by
    subst hK hT
    have hu := hu_of hr
    have hu65 := hr.u65
    have hu64 := hr.units
    have hng := ng_of (ios := [0]) (by rw [hG]; rfl)
    have hgx : gvA B.gv x := ⟨0, by rw [hG]; exact List.mem_singleton.mpr rfl⟩
    exact (is_cons (is_of (es_if (PW.pt (ew_or (et_not (et_tru (ev_cal C_are_names (by decide) hr (by rfl) (ea_cons (ev_name (pv 1)) ea_nil)) rfl)) (ew_or1 (et_not (et_tru (ev_cal C_are_rows (by decide) hr (by rfl) (ea_cons (ev_name (pv 2)) (ea_cons (ev_name (pv 1)) ea_nil))) rfl)))))
 (es_one (es_raiseN rfl tk M_BadMachine (by rfl) (ea_cons ev_str ea_nil)))
 es_nil))
 (is_cons (is_fld rfl hgx A_Machine N_Machine__parts (pv 0) (ev_D (ev_name (pv 1))))
 (is_one (is_fld rfl hgx A_Machine N_Machine__rows (pv 0) (ev_D (ev_name (pv 2))))))))
end
end Kf

set_option Elab.async false
set_option linter.all false
set_option maxRecDepth 100000
set_option maxHeartbeats 2000000
namespace Kf
open PySem PySem.Spec PyProof.Rows L2
/-! ### the draw -/
def dkv (L C : Addr) (r t m : Int) : List (Key × V) := [(.inr "large", .ref L), (.inr "cells", .ref C), (.inr "rest", .int r), (.inr "turn", .int t), (.inr "mix", .int m)]
theorem put_rest {L C : Addr} {r t m r' : Int} : putK (dkv L C r t m) (.inr "rest") (.int r') = dkv L C r' t m := by with_unfolding_all rfl
theorem put_turn {L C : Addr} {r t m r' : Int} : putK (dkv L C r t m) (.inr "turn") (.int r') = dkv L C r r' m := by with_unfolding_all rfl
theorem put_mix {L C : Addr} {r t m r' : Int} : putK (dkv L C r t m) (.inr "mix") (.int r') = dkv L C r t r' := by with_unfolding_all rfl
theorem val_large {L C : Addr} {r t m : Int} : valV (dkv L C r t m) (.inr "large") = some (.ref L) := by with_unfolding_all rfl
theorem val_cells {L C : Addr} {r t m : Int} : valV (dkv L C r t m) (.inr "cells") = some (.ref C) := by with_unfolding_all rfl
theorem val_rest {L C : Addr} {r t m : Int} : valV (dkv L C r t m) (.inr "rest") = some (.int r) := by with_unfolding_all rfl
theorem val_turn {L C : Addr} {r t m : Int} : valV (dkv L C r t m) (.inr "turn") = some (.int t) := by with_unfolding_all rfl
theorem val_mix {L C : Addr} {r t m : Int} : valV (dkv L C r t m) (.inr "mix") = some (.int m) := by with_unfolding_all rfl
/-- the draw at d, its large numbers at L, its cells at C -/
structure Drw (H : Hp) (d L C : Addr) (ls cs : List Int) (r t m : Int) : Prop where
  hd : H d = some (.dK (dkv L C r t m))
  hL : H L = some (.lst (ls.map V.int))
  hC : H C = some (.lst (cs.map V.int))
  ne : L ≠ C
  lpos : ∀ x ∈ ls, 0 ≤ x
  llen : ls.length ≤ 63
  clen : cs.length ≤ 63
  r0 : 0 ≤ r
  m0 : 0 ≤ m
  m1 : m < 2147483629
def Dr (H : Hp) (d L C : Addr) : Prop := ∃ ls cs r t m, Drw H d L C ls cs r t m
/-- all else is kept -/
def Kp (d L : Addr) (H H' : Hp) : Prop := ∀ b o, H b = some o → b ≠ d → b ≠ L → H' b = some o
theorem Kp.refl {d L : Addr} {H : Hp} : Kp d L H H := fun _ _ h _ _ => h
theorem Kp.trans {d L : Addr} {H H1 H2 : Hp} (a : Kp d L H H1) (b : Kp d L H1 H2) : Kp d L H H2 := fun c o h n1 n2 => b c o (a c o h n1 n2) n1 n2
theorem Kp.new {d L p : Addr} {H : Hp} {o : HO} (hp : H p = none) : Kp d L H (upd H p o) := fun b u h _ _ => by
  rw [upd_ne (ne_of_none h hp)]
  exact h
theorem Kp.dset {d L : Addr} {H : Hp} {o : HO} : Kp d L H (upd H d o) := fun b u h n _ => by
  rw [upd_ne n]
  exact h
theorem Kp.lset {d L : Addr} {H : Hp} {o : HO} : Kp d L H (upd H L o) := fun b u h _ n => by
  rw [upd_ne n]
  exact h
section
variable {H : Hp} {d L C : Addr} {ls cs : List Int} {r t m : Int}
theorem Drw.dL (D : Drw H d L C ls cs r t m) : L ≠ d := ne_of D.hL D.hd (by intro z; cases z)
theorem Drw.dC (D : Drw H d L C ls cs r t m) : C ≠ d := ne_of D.hC D.hd (by intro z; cases z)
theorem Drw.new (D : Drw H d L C ls cs r t m) {p : Addr} {o : HO} (hp : H p = none) : Drw (upd H p o) d L C ls cs r t m :=
  { D with hd := by rw [upd_ne (ne_of_none D.hd hp)]; exact D.hd, hL := by rw [upd_ne (ne_of_none D.hL hp)]; exact D.hL, hC := by rw [upd_ne (ne_of_none D.hC hp)]; exact D.hC }
theorem Drw.rest (D : Drw H d L C ls cs r t m) {r' : Int} (h : 0 ≤ r') : Drw (upd H d (.dK (putK (dkv L C r t m) (.inr "rest") (.int r')))) d L C ls cs r' t m :=
  { D with hd := by rw [upd_same, put_rest], hL := by rw [upd_ne D.dL]; exact D.hL, hC := by rw [upd_ne D.dC]; exact D.hC, r0 := h }
theorem Drw.turn (D : Drw H d L C ls cs r t m) {t' : Int} : Drw (upd H d (.dK (putK (dkv L C r t m) (.inr "turn") (.int t')))) d L C ls cs r t' m :=
  { D with hd := by rw [upd_same, put_turn], hL := by rw [upd_ne D.dL]; exact D.hL, hC := by rw [upd_ne D.dC]; exact D.hC }
theorem Drw.mix (D : Drw H d L C ls cs r t m) {m' : Int} (h0 : 0 ≤ m') (h1 : m' < 2147483629) : Drw (upd H d (.dK (putK (dkv L C r t m) (.inr "mix") (.int m')))) d L C ls cs r t m' :=
  { D with hd := by rw [upd_same, put_mix], hL := by rw [upd_ne D.dL]; exact D.hL, hC := by rw [upd_ne D.dC]; exact D.hC, m0 := h0, m1 := h1 }
theorem Drw.pop {x : Int} (D : Drw H d L C (x :: ls) cs r t m) : Drw (upd H L (.lst (ls.map V.int))) d L C ls cs r t m :=
  { D with hd := by rw [upd_ne D.dL.symm]; exact D.hd, hL := upd_same, hC := by rw [upd_ne D.ne.symm]; exact D.hC, lpos := fun y hy => D.lpos y (List.mem_cons_of_mem _ hy), llen := Nat.le_of_succ_le D.llen }
theorem Drw.gL (D : Drw H d L C ls cs r t m) : DGet H d (.str "large") (some (.ref L)) := by have q := DGet.k (k := .inr "large") D.hd; rw [val_large] at q; exact q
theorem Drw.gC (D : Drw H d L C ls cs r t m) : DGet H d (.str "cells") (some (.ref C)) := by have q := DGet.k (k := .inr "cells") D.hd; rw [val_cells] at q; exact q
theorem Drw.gR (D : Drw H d L C ls cs r t m) : DGet H d (.str "rest") (some (.int r)) := by have q := DGet.k (k := .inr "rest") D.hd; rw [val_rest] at q; exact q
theorem Drw.gT (D : Drw H d L C ls cs r t m) : DGet H d (.str "turn") (some (.int t)) := by have q := DGet.k (k := .inr "turn") D.hd; rw [val_turn] at q; exact q
theorem Drw.gM (D : Drw H d L C ls cs r t m) : DGet H d (.str "mix") (some (.int m)) := by have q := DGet.k (k := .inr "mix") D.hd; rw [val_mix] at q; exact q
theorem Drw.sz : (dkv L C r t m).length < sizeLine := small1000 (by show 5 ≤ 1000; decide)
theorem Drw.pR (D : Drw H d L C ls cs r t m) (v : V) : DPut H d (.str "rest") v (upd H d (.dK (putK (dkv L C r t m) (.inr "rest") v))) := DPut.k (k := .inr "rest") D.hd Drw.sz
theorem Drw.pT (D : Drw H d L C ls cs r t m) (v : V) : DPut H d (.str "turn") v (upd H d (.dK (putK (dkv L C r t m) (.inr "turn") v))) := DPut.k (k := .inr "turn") D.hd Drw.sz
theorem Drw.pM (D : Drw H d L C ls cs r t m) (v : V) : DPut H d (.str "mix") v (upd H d (.dK (putK (dkv L C r t m) (.inr "mix") v))) := DPut.k (k := .inr "mix") D.hd Drw.sz
end
theorem dpAll_ints {K : PySem.W.Frag} {H : Hp} : ∀ ns : List Int, DpAll K H (ns.map V.int) (ns.map PyData.int)
  | [] => .nil
  | n :: r => .cons (.int n) (dpAll_ints r)
theorem canAll_ints : ∀ ns : List Int, PyData.canLayAll0 (ns.map PyData.int) = true
  | [] => by simp [PyData.canLayAll0]
  | n :: r => by simp [PyData.canLayAll0, PyData.canLay0, canAll_ints r]
theorem depthAll_ints : ∀ ns : List Int, PyData.depthAll (ns.map PyData.int) ≤ 1
  | [] => by simp [PyData.depthAll]
  | n :: r => by
    have := depthAll_ints r
    simp [PyData.depthAll, PyData.depth]
    omega
theorem shaped_ints (ns : List Int) : SeqAt.shaped (.list (ns.map PyData.int)) = true := by
  have h1 := canAll_ints ns
  have h2 := depthAll_ints ns
  simp [SeqAt.shaped, PyData.canLay0, PyData.depth, h1]
  omega
theorem eqv_nil : ∀ ns : List Int, PyData.eqv (.list (ns.map PyData.int)) (.list []) = ns.isEmpty
  | [] => by simp [PyData.eqv, PyData.eqvAll]
  | n :: r => by simp [PyData.eqv, PyData.eqvAll]
/-- draw[size] taken: any number below size -/
def spTake : Sp := fun vs H Q _ => ∃ (d L C : Addr) (n : Int), vs = [.ref d, .int n] ∧ Dr H d L C ∧ 0 < n ∧ n < 1073741824 ∧ ∀ H' k, Dr H' d L C → Kp d L H H' → 0 ≤ k → k < n → Q (.int k) H'
/-- what is known between two statements, said once -/
theorem seq_of {t u : TS} {D : Ends} {σ : L2.St} {H : Hp} (Pv : L2.St → Hp → Prop) (h : ∀ σ' H', Pv σ' H' → u D σ' H') (g : (∀ σ' H', Pv σ' H' → u D σ' H') → t { D with nx := u D } σ H) : tSeq t u D σ H := g h
section
variable {P : Program} {w : World} {K : PySem.W.Frag} {mg : Str → Option Value} {base : Heap}
theorem ok_take {f : Addr} {fd : FuncData} {k : Nat} (F : Fun K "_law_take" "_law_take" s__law_take f fd) (mi : mg "int" = none) (mdv : mg "divmod" = none) : FnOk P w K mg base CX0 (k + 1) f fd ["draw", "size"] spTake := by
  refine F.ok sc__law_take (fun vs H Q E h => ?_) (fun cdv A outer s H vs Q E hr h => ?_)
  · obtain ⟨d, L, C, n, rfl, _⟩ := h
    rfl
  · obtain ⟨d, L, C, n, rfl, ⟨ls, cs, r, t, m, D⟩, hn0, hn1, q⟩ := h
    have hu := hu_of hr
    have hu64 := hr.units
    refine ⟨_, pss_cons (ps_if (PW.pt (pw_and (pt_cmpR op_eq (pe_dget hu (pv 0) pe_str (fun _ _ => rfl)) pe_int (nomark _)) (pw_and1 (pt_cmpR (op_neD hu64) (pe_dget hu (pv 0) pe_str (fun _ _ => rfl)) (pe_lst pa_nil) (nomark _)))))
        (pss_one (ps_dput hu (pv 0) pe_str (pe_bm PySem.F.plainAttrs_list PySem.F.slot_list_pop PySem.F.type_list_pop mt_popAt (pe_dget hu (pv 0) pe_str (fun _ _ => rfl)) (pa_cons pe_int pa_nil)) rfl))
        (pss_one (ps_if (pt_cmpR op_eq (pe_dget hu (pv 0) pe_str (fun _ _ => rfl)) pe_int (nomark _))
          (pss_cons (ps_dput hu (pv 0) pe_str (pe_op op_add (pe_dget hu (pv 0) pe_str (fun _ _ => rfl)) pe_int) rfl)
          (pss_cons (ps_for PassesOwn.never rfl (pi_list (pe_op op_cat (pe_lst (pa_cons (pe_dget hu (pv 0) pe_str (fun _ _ => rfl)) pa_nil)) (pe_dget hu (pv 0) pe_str (fun _ _ => rfl)))) (pg_name (i := 2) sc__law_take.nd rfl (.inl rfl))
            (pss_one (ps_dput hu (pv 0) pe_str (pe_op op_mod (pe_callTy call_int1 (by rfl) mi (by decide +kernel) (pa_cons (pe_op op_add (pe_op op_add (pe_op op_mul (pe_dget hu (pv 0) pe_str (fun _ _ => rfl)) pe_int) (pe_op op_mul (pv 2) pe_int)) pe_int) pa_nil)) pe_int) rfl)))
          (pss_one (ps_dput hu (pv 0) pe_str (pe_op op_mod (pe_callTy call_int1 (by rfl) mi (by decide +kernel) (pa_cons (pe_op op_pow (pe_dget hu (pv 0) pe_str (fun _ _ => rfl)) pe_int) pa_nil)) pe_int) rfl))))
          pss_nil)))
      (pss_cons (ps_asg (pe_callB call_divmod (by rfl) mdv (by decide +kernel) (pa_cons (pe_dget hu (pv 0) pe_str (fun _ _ => rfl)) (pa_cons (pv 1) pa_nil))) (pg_tup rfl (pgs_cons (pg_sub (pv 0) pe_str (set_dict hu)) (pgs_cons (pg_name (i := 3) sc__law_take.nd rfl (.inl rfl)) pgs_nil))))
      (pss_one (ps_ret (pv 3)))), ?_⟩
    refine seq_of (fun σ' H1 => ∃ y2 y3 ls r t m, σ' = [some (.ref d), some (.int n), y2, y3] ∧ Drw H1 d L C ls cs r t m ∧ Kp d L H H1) (fun σ' H1 p => ?_) (fun fin => ?_)
    · obtain ⟨y2, y3, ls, r, t, m, rfl, D, kp⟩ := p
      refine ⟨.ref d, rfl, d, .int r, rfl, D.gR, .int n, rfl, r, n, rfl, ⟨hn0, hn1⟩, fun p np => ?_⟩
      have D1 := D.new (o := .tup [.int (r / n), .int (r % n)]) np
      have h0 : 0 ≤ r / n := Int.ediv_nonneg D.r0 (Int.le_of_lt hn0)
      refine ⟨p, [.int (r / n), .int (r % n)], rfl, .of upd_same, rfl, .int (r / n), _, rfl, ⟨.ref d, rfl, d, _, rfl, D1.pR _, .int (r % n), [], rfl, rfl, .int (r % n), rfl, ?_⟩⟩
      exact q _ _ ⟨_, _, _, _, _, D1.rest h0⟩ ((kp.trans (Kp.new np)).trans Kp.dset) (Int.emod_nonneg _ (by omega)) (Int.emod_lt_of_pos _ hn0)
    · refine ⟨.ref d, rfl, d, .int r, rfl, D.gR, rfl, _, rfl, ite2 (fun e => ?_) (fun e => ?_)⟩
      · -- rest is 0: are there large numbers?
        have er : r = 0 := V.int.inj (of_decide_eq_true e)
        subst er
        refine ⟨.ref d, rfl, d, .ref L, rfl, D.gL, Nat.zero_le _, fun p np => ?_⟩
        have D1 := D.new (o := .lst []) np
        have k1 : Kp d L H (upd H p (.lst [])) := Kp.new np
        refine ⟨.list (ls.map PyData.int), .list [], .lst (.of D1.hL) (dpAll_ints ls), .lst (.of upd_same) .nil, shaped_ints ls, shaped_ints [], ?_⟩
        rw [eqv_nil]
        refine ⟨_, rfl, ite2 (fun e => ?_) (fun e => ?_)⟩
        · -- the first of them is taken
          obtain ⟨x, xs, rfl⟩ : ∃ x xs, ls = x :: xs := by
            cases ls with
            | nil => simp at e
            | cons x xs => exact ⟨x, xs, rfl⟩
          have nd : d ≠ L := D1.dL.symm
          refine ⟨.ref d, rfl, d, .ref L, rfl, D1.gL, .inl ⟨rfl, _, .of D1.hL⟩, L, _, 0, 0, .int x, rfl, rfl, D1.hL, by decide, by decide, ?_, rfl, ?_⟩
          · exact PySem.StrLaws.seqIndex_nonneg (by decide) (by rw [List.length_map, List.length_cons]; omega)
          · have e0 : ((x :: xs).map V.int).eraseIdx 0 = xs.map V.int := rfl
            rw [e0]
            have D2 := D1.pop
            refine ⟨.ref d, rfl, d, _, rfl, D2.pR _, fin _ _ ⟨_, _, xs, x, t, m, rfl, D2.rest (D.lpos x (List.mem_cons_self ..)), (k1.trans Kp.lset).trans Kp.dset⟩⟩
        · -- a new turn
          refine ⟨.ref d, rfl, d, .int 0, rfl, D1.gR, rfl, _, rfl, ite2 (fun e => ?_) (fun e => ?_)⟩
          · refine ⟨.ref d, rfl, d, .int t, rfl, D1.gT, t, 1, rfl, rfl, .ref d, rfl, d, _, rfl, D1.pT _, ?_⟩
            have D2 := D1.turn (t' := t + 1)
            have k2 := k1.trans (Kp.dset (d := d) (L := L) (o := .dK (putK (dkv L C 0 t m) (.inr "turn") (.int (t + 1)))))
            refine ⟨.ref d, rfl, d, .int (t + 1), rfl, D2.gT, (by show 1 ≤ sizeLine; decide), fun l nl => ?_⟩
            have D3 := D2.new (o := .lst [.int (t + 1)]) nl
            have k3 := k2.trans (Kp.new (o := .lst [.int (t + 1)]) nl)
            refine ⟨.ref d, rfl, d, .ref C, rfl, D3.gC, l, C, _, _, rfl, rfl, upd_same, D3.hC, ?_, fun c nc => ?_⟩
            · have := D.clen
              rw [List.length_map, sizeLine_eq]
              show 1 + cs.length ≤ 16777216
              omega
            have D4 := D3.new (o := .lst ([V.int (t + 1)] ++ cs.map V.int)) nc
            have k4 := k3.trans (Kp.new (o := .lst ([V.int (t + 1)] ++ cs.map V.int)) nc)
            have nd : c ≠ d := (ne_of_none D3.hd nc).symm
            refine ⟨c, rfl, ⟨_, .of upd_same⟩, for_list (xs := [V.int (t + 1)] ++ cs.map V.int) (fun i σ H2 => ∃ y2 y3 m', σ = [some (.ref d), some (.int n), y2, y3] ∧ Drw H2 d L C ls cs 0 (t + 1) m' ∧ Kp d L H H2 ∧ H2 c = some (.lst ([V.int (t + 1)] ++ cs.map V.int)))
              ⟨_, _, m, rfl, D4, k4, upd_same⟩ (fun i σ H2 _ p => ?_) (fun i x σ H2 hx p => ?_) (fun σ H2 p => ?_)⟩
            · obtain ⟨_, _, _, _, _, _, hc⟩ := p
              exact .of hc
            · obtain ⟨y2, y3, m', rfl, D5, k5, hc⟩ := p
              have ex : ∃ z : Int, x = .int z := by
                have hm := List.mem_of_getElem? hx
                rcases List.mem_append.mp hm with h | h
                · exact ⟨_, List.mem_singleton.mp h⟩
                · obtain ⟨z, _, e⟩ := List.mem_map.mp h
                  exact ⟨z, e.symm⟩
              obtain ⟨z, rfl⟩ := ex
              refine ⟨.ref d, rfl, d, .int m', rfl, D5.gM, m', 69621, rfl, rfl, .inr ⟨by decide, by decide⟩, .int z, rfl, z, 48271, rfl, rfl, .inr ⟨by decide, by decide⟩, _, _, rfl, rfl, _, 12345, rfl, rfl, .inl ⟨_, rfl, _, 2147483629, rfl, rfl, by show (0 : Int) < 2147483629; decide, .ref d, rfl, d, _, rfl, D5.pM _, ?_⟩⟩
              exact ⟨_, _, _, rfl, D5.mix (Int.emod_nonneg _ (by decide)) (Int.emod_lt_of_pos _ (by decide)), k5.trans Kp.dset, by rw [upd_ne nd]; exact hc⟩
            · obtain ⟨y2, y3, m', rfl, D5, k5, _⟩ := p
              have h0 := D5.m0
              have h1 := D5.m1
              refine ⟨.ref d, rfl, d, .int m', rfl, D5.gM, m', 5, rfl, rfl, ⟨by decide, by decide, by omega⟩, .inl ⟨_, rfl, _, 2305843009213693951, rfl, rfl, by show (0 : Int) < 2305843009213693951; decide, .ref d, rfl, d, _, rfl, D5.pR _, fin _ _ ⟨_, _, ls, _, _, _, rfl, D5.rest (Int.emod_nonneg _ (by decide)), k5.trans Kp.dset⟩⟩⟩
          · exact absurd (decide_eq_true rfl) e
      · refine ⟨.ref d, rfl, d, .int r, rfl, D.gR, rfl, _, rfl, ite2 (fun e2 => absurd e2 e) (fun e2 => ?_)⟩
        exact fin _ _ ⟨_, _, ls, r, t, m, rfl, D, Kp.refl⟩

/-! ### the beginning -/
/-- a draw from a list of ints -/
def spBegin (K : PySem.W.Frag) : Sp := fun vs H Q _ => ∃ (a : Addr) (ns : List Int), vs = [.ref a] ∧ SqL K H a (ns.map V.int) ∧ ns.length ≤ 63 ∧ ∀ H' d L C, Dr H' d L C → (∀ b o, H b = some o → H' b = some o) → H d = none → H L = none → H C = none → Q (.ref d) H'
theorem ok_begin {f : Addr} {fd : FuncData} {k : Nat} (F : Fun K "_law_begin" "_law_begin" s__law_begin f fd) (ma : mg "abs" = none) (ml : mg "list" = none) : FnOk P w K mg base CX0 (k + 1) f fd ["script"] (spBegin K) := by
  refine F.ok sc__law_begin (fun vs H Q E h => ?_) (fun cdv A outer s H vs Q E hr h => ?_)
  · obtain ⟨a, ns, rfl, _⟩ := h
    rfl
  · obtain ⟨a, ns, rfl, hS, hlen, q⟩ := h
    refine ⟨_, pss_cons (ps_setLc (i := 1) (own := [("cell", 2)]) (g := gName 2) (by rfl) sc__law_begin.nd rfl rfl (sw_true rfl rfl rfl (by decide +kernel)) (pi_list (pv 0)) (blkOk_by (own := [("cell", 2)]) (N := ["script", "large", "cell"]) (sc := defScope s__law_begin) (by decide +kernel))
          (fun _ _ _ _ _ => pg_name (i := 2) sc__law_begin.nd rfl (Or.inl rfl))
          (fun _ _ _ _ _ => pts_one (pt_cmpR op_ge (pe_callB call_abs (by rfl) ma (by decide +kernel) (pa_cons (pv 2) pa_nil)) (pe_op op_pow pe_int pe_int) (nomark _)))
          (fun _ _ _ _ _ => pe_callB call_abs (by rfl) ma (by decide +kernel) (pa_cons (pv 2) pa_nil)))
      (pss_one (ps_ret (pe_disp (pps_cons pe_str (pv 1) (pps_cons pe_str (pe_callTy call_list_of (by rfl) ml (by decide +kernel) (pa_cons (pv 0) pa_nil)) (pps_cons pe_str pe_int (pps_cons pe_str pe_int (pps_cons pe_str pe_int pps_nil))))) (by rfl) (by rfl) (fun z => by cases z) (by decide)))), ?_⟩
    refine ⟨.ref a, rfl, a, rfl, ⟨_, hS⟩, fun D nD => ?_⟩
    have aD : ∀ {H2 : Hp}, Same H H2 → SqL K H2 a (ns.map V.int) := fun sm => sm.seq hS
    refine lc_list (xs := ns.map V.int) (fun i H2 => Same H H2 ∧ ∃ ls : List Int, H2 D = some (.lst (ls.map V.int)) ∧ (∀ x ∈ ls, 0 ≤ x) ∧ ls.length ≤ i) ⟨?_, [], upd_same, fun x hx => (by cases hx), Nat.le_refl _⟩ (fun i H2 _ p => aD p.1) (fun i x H2 hx p => ?_) (fun H2 p => ?_)
    · intro b o e
      rw [upd_ne (ne_of_none e nD)]
      exact e
    · obtain ⟨sm, ls, hD, hpos, hl⟩ := p
      obtain ⟨z, _, rfl⟩ := List.mem_map.mp (List.mem_of_getElem? hx)
      have hi : i < ns.length := by
        have := (List.getElem?_eq_some_iff.mp hx).1
        rw [List.length_map] at this
        exact this
      refine ⟨rfl, .int z, rfl, z, rfl, 10, 18, rfl, rfl, ⟨by decide, by decide, by decide⟩, _, _, rfl, rfl, _, rfl, ite2 (fun e => ?_) (fun e => ?_)⟩
      · refine ⟨.int z, rfl, z, rfl, _, hD, ?_, ?_, ls ++ [if z < 0 then -z else z], ?_, fun x hx => ?_, ?_⟩
        · rw [List.length_map, sizeLine_eq]
          omega
        · intro b o e
          rw [upd_ne (ne_of_none e nD)]
          exact sm b o e
        · rw [upd_same, List.map_append]
          rfl
        · rcases List.mem_append.mp hx with h | h
          · exact hpos x h
          · rw [List.mem_singleton.mp h]
            split <;> omega
        · rw [List.length_append]
          show ls.length + 1 ≤ i + 1
          omega
      · exact ⟨sm, ls, hD, hpos, Nat.le_succ_of_le hl⟩
    · obtain ⟨sm, ls, hD, hpos, hl⟩ := p
      rw [List.length_map] at hl
      intro d nd
      have hDd : D ≠ d := ne_of_none hD nd
      have s1 : Same H2 (upd H2 d (.dK [])) := fun b o e => by
        rw [upd_ne (ne_of_none e nd)]
        exact e
      have aH : SqL K (upd H2 d (.dK [])) a (ns.map V.int) := s1.seq (sm.seq hS)
      refine ⟨.ref D, rfl, .ref a, rfl, a, _, rfl, .inl aH, fun C nC => ?_⟩
      have hCd : d ≠ C := ne_of_none (upd_same (H := H2) (a := d)) nC
      have nC2 : H2 C = none := by
        rw [upd_ne hCd.symm] at nC
        exact nC
      have hDC : D ≠ C := ne_of_none hD nC2
      refine ⟨by rw [upd_ne hCd, upd_same], [(.inr "large", .ref D), (.inr "cells", .ref C), (.inr "rest", .int 0), (.inr "turn", .int 0), (.inr "mix", .int 7)], rfl, by show 5 ≤ 15; decide, ?_⟩
      have em : mergeK [] [((.inr "large" : Key), V.ref D), (.inr "cells", .ref C), (.inr "rest", .int 0), (.inr "turn", .int 0), (.inr "mix", .int 7)] = dkv D C 0 0 7 := by with_unfolding_all rfl
      rw [em]
      refine q _ d D C ⟨ls, ns, 0, 0, 7, ⟨upd_same, ?_, ?_, hDC, hpos, by omega, hlen, by decide, by decide, by decide⟩⟩ (fun b o e => ?_) ?_ nD ?_
      · rw [upd_ne hDd, upd_ne hDC, upd_ne hDd]
        exact hD
      · rw [upd_ne hCd.symm, upd_same]
      · have e2 := sm b o e
        rw [upd_ne (ne_of_none e2 nd), upd_ne (ne_of_none e2 nC2), upd_ne (ne_of_none e2 nd)]
        exact e2
      · exact sm.free nd
      · exact sm.free nC2
/-! ### one of some -/
/-- some[draw] -/
def spPick (K : PySem.W.Frag) : Sp := fun vs H Q _ => ∃ (d L C a : Addr) (xs : List V), vs = [.ref d, .ref a] ∧ Dr H d L C ∧ a ≠ L ∧ SqL K H a xs ∧ 0 < xs.length ∧ xs.length < 1000 ∧ ∀ H' x, Dr H' d L C → Kp d L H H' → x ∈ xs → Q x H'
theorem Kp.seq {d L a : Addr} {H H' : Hp} {xs : List V} {C : Addr} (kp : Kp d L H H') (D : Dr H d L C) (n : a ≠ L) (h : SqL K H a xs) : SqL K H' a xs := by
  obtain ⟨ls, cs, r, t, m, D⟩ := D
  rcases h with (h | ⟨o, h⟩) | h
  · exact .inl (.inl (kp _ _ h (ne_of h D.hd (by intro z; cases z)) n))
  · exact .inl (.inr ⟨o, kp _ _ h (ne_of h D.hd (by intro z; cases z)) n⟩)
  · exact .inr h
theorem ok_pick {f fT : Addr} {fd fdT : FuncData} {k : Nat} (F : Fun K "_law_pick" "_law_pick" s__law_pick f fd) (GT : FnOk P w K mg base CX0 k fT fdT ["draw", "size"] spTake) (bT : Binds K fdT ["draw", "size"] []) (kT : PySem.W.keepIn K (.ref fT) = true) (gT : mg "_law_take" = some (.ref fT)) (ml : mg "len" = none) :
    FnOk P w K mg base CX0 (k + 1) f fd ["draw", "some"] (spPick K) := by
  refine F.ok sc__law_pick (fun vs H Q E h => ?_) (fun cdv A outer s H vs Q E hr h => ?_)
  · obtain ⟨d, L, C, a, xs, rfl, _⟩ := h
    rfl
  · obtain ⟨d, L, C, a, xs, rfl, D, n, hS, h0, h1, q⟩ := h
    refine ⟨_, pss_one (ps_ret (pe_ix ix_list (pv 1) (pe_call GT hr (by rfl) gT kT bT .nil pass0 (pa_cons (pv 0) (pa_cons (pe_callB call_len_seq (by rfl) ml PySem.boot_len (pa_cons (pv 1) pa_nil)) pa_nil))) (fun _ _ => rfl))), ?_⟩
    refine ⟨.ref a, rfl, .ref d, rfl, .ref a, rfl, a, xs, rfl, .inl hS, d, L, C, xs.length, rfl, D, by omega, by omega, fun H' k D' kp hk0 hk1 => ?_⟩
    obtain ⟨j, rfl⟩ : ∃ j : Nat, k = (j : Int) := ⟨k.toNat, by omega⟩
    have hj : j < xs.length := by omega
    refine ⟨a, xs, _, xs[j], rfl, rfl, kp.seq D n hS, atI_nat (List.getElem?_eq_getElem hj), q _ _ D' kp (List.getElem_mem hj)⟩
end
end Kf

set_option Elab.async false
set_option linter.all false
set_option maxRecDepth 100000
set_option maxHeartbeats 2000000
namespace Kf
open PySem PySem.Spec PyProof.Rows L2 LamX NdefX
/-! ## the draw as a thing of the world; what the hand's promises say of shared data -/
section
variable {H H' S : Hp} {d L C : Addr}
theorem Dr.hd (D : Dr H d L C) : ∃ r t m, H d = some (.dK (dkv L C r t m)) := by
  obtain ⟨ls, cs, r, t, m, D⟩ := D
  exact ⟨r, t, m, D.hd⟩
theorem Dr.hL (D : Dr H d L C) : ∃ xs, H L = some (.lst xs) := by
  obtain ⟨ls, cs, r, t, m, D⟩ := D
  exact ⟨_, D.hL⟩
theorem Dr.hC (D : Dr H d L C) : ∃ xs, H C = some (.lst xs) := by
  obtain ⟨ls, cs, r, t, m, D⟩ := D
  exact ⟨_, D.hC⟩
end
def drC (d L C : Addr) : Comp where
  ref := d
  mu := fun a => a = d ∨ a = L ∨ a = C
  κ := fun H => Dr H d L C
  ist := fun H H' k D => by
    obtain ⟨ls, cs, r, t, m, D⟩ := D
    exact ⟨ls, cs, r, t, m, { D with hd := k _ _ (.inl rfl) D.hd nofun, hL := k _ _ (.inr (.inl rfl)) D.hL nofun, hC := k _ _ (.inr (.inr rfl)) D.hC nofun }⟩
  nt := fun H a o D m e => by
    rcases m with rfl | rfl | rfl
    · obtain ⟨r, t, m, h⟩ := D.hd
      rw [h] at e; cases e; trivial
    · obtain ⟨xs, h⟩ := D.hL
      rw [h] at e; cases e; trivial
    · obtain ⟨xs, h⟩ := D.hC
      rw [h] at e; cases e; trivial
/-- what is shared behind a step: what was, and all that is new -/
def grow (S H H' : Hp) : Hp := fun a => if (S a).isSome || (H a).isNone then H' a else none
theorem grow_in {S H H' : Hp} {a : Addr} {o : HO} (h : S a = some o) : grow S H H' a = H' a := by unfold grow; rw [h]; rfl
theorem grow_new {S H H' : Hp} {a : Addr} (h : H a = none) : grow S H H' a = H' a := by unfold grow; rw [h]; simp
theorem grow_out {S H H' : Hp} {a : Addr} (h1 : H a ≠ none) (h2 : S a = none) : grow S H H' a = none := by
  unfold grow
  rw [h2]
  cases e : H a with
  | none => exact absurd e h1
  | some o => rfl
theorem grow_sub {S H H' : Hp} : Sub (grow S H H') H' := fun a o h => by
  unfold grow at h
  split at h
  · exact h
  · cases h
section
variable {T : List NTab} {K : KW} {W : List Comp} {S H H' : Hp} {d L C : Addr}
/-- a step that changes the draw alone -/
theorem kp_stp (sub : Sub S H) (wf : Wf W S H) (hw : drC d L C ∈ W) (tb : TabsN T H) (D' : Dr H' d L C) (kp : Kp d L H H') : StpW T W S H (grow S H H') H' := by
  have D : Dr H d L C := wf.kp _ hw
  have nd : ∀ b, b ≠ d → b ≠ L → ∀ o, H b = some o → H' b = some o := fun b h1 h2 o e => kp b o e h1 h2
  have mu : ∀ b, ¬ muW W b → b ≠ d ∧ b ≠ L := fun b n => ⟨fun z => n ⟨_, hw, .inl z⟩, fun z => n ⟨_, hw, .inr (.inl z)⟩⟩
  have tbk : TabsN T H → TabsN T H' := fun t p hp => by
    obtain ⟨ps, h1, h2, h3⟩ := t p hp
    obtain ⟨r, u, m, hd⟩ := D.hd
    obtain ⟨xs, hL⟩ := D.hL
    refine ⟨ps, kp _ _ h1 (fun z => by rw [z, hd] at h1; cases h1) (fun z => by rw [z, hL] at h1; cases h1), h2, fun p' cv hcv => ?_⟩
    obtain ⟨c', e, h⟩ := h3 p' cv hcv
    exact ⟨c', e, kp _ _ h (fun z => by rw [z, hd] at h; cases h) (fun z => by rw [z, hL] at h; cases h)⟩
  refine ⟨⟨fun b o e m _ => nd b (mu b m).1 (mu b m).2 o e, fun b e => ?_, tbk⟩, fun b o e n => ?_, grow_sub, fun a h1 h2 => grow_out h1 h2, fun c hc => ?_⟩
  · cases z : H b with
    | none => rfl
    | some o =>
      by_cases h1 : b = d
      · subst h1
        obtain ⟨_, _, _, h⟩ := D'.hd
        rw [h] at e; cases e
      · by_cases h2 : b = L
        · subst h2
          obtain ⟨_, h⟩ := D'.hL
          rw [h] at e; cases e
        · rw [nd b h1 h2 o z] at e; cases e
  · rw [grow_in e]
    have nm : ¬ muW W b := fun z => by have := (wf.hs b z).1; rw [e] at this; cases this
    exact nd b (mu b nm).1 (mu b nm).2 o (sub b o e)
  · by_cases z : c = drC d L C
    · subst z; exact D'
    · refine c.ist H H' (fun a o m e _ => nd a (fun q => ?_) (fun q => ?_) o e) (wf.kp c hc)
      · exact z (wf.dj c hc _ hw a m (.inl q))
      · exact z (wf.dj c hc _ hw a m (.inr (.inl q)))
/-- what is hidden behind a step is no tuple -/
theorem kp_nt (wf : Wf W S H) (hw : drC d L C ∈ W) (D' : Dr H' d L C) (kp : Kp d L H H') {a : Addr} {o : HO} (e : H' a = some o) (g : grow S H H' a = none) : noT o := by
  have D : Dr H d L C := wf.kp _ hw
  cases z : H a with
  | none => rw [grow_new z, e] at g; cases g
  | some u =>
    have hS : S a = none := by
      cases q : S a with
      | none => rfl
      | some v => rw [grow_in q, e] at g; cases g
    by_cases h1 : a = d
    · exact (drC d L C).nt H' a o D' (.inl h1) e
    · by_cases h2 : a = L
      · exact (drC d L C).nt H' a o D' (.inr (.inl h2)) e
      · have := kp a u z h1 h2
        rw [e] at this
        cases this
        exact wf.nt a _ z hS
theorem grow_eq {a : Addr} {o : HO} (nt : ∀ {a o}, H' a = some o → grow S H H' a = none → noT o) (e : H' a = some o) (n : ¬ noT o) : grow S H H' a = some o := by
  cases z : grow S H H' a with
  | none => exact absurd (nt e z) n
  | some u => rw [← grow_sub a u z, e]
theorem sqT_vis (nt : ∀ {a o}, H' a = some o → grow S H H' a = none → noT o) {a : Addr} {xs : List V} (h : SqT K H' a xs) : SqT K (grow S H H') a xs := by
  rcases h with (h | ⟨o, h⟩) | h
  · exact .inl (.inl (grow_eq nt h id))
  · exact .inl (.inr ⟨o, grow_eq nt h id⟩)
  · exact .inr h
end
def f_take : List Rv → (Rv → Prop) → Prop := fun rs R => ∃ d L C n, rs = [.m (drC d L C), .d (.int n)] ∧ 0 < n ∧ n < 1073741824 ∧ ∀ k, 0 ≤ k → k < n → R (.d (.int k))
section
variable {K : KW} {mg : Str → Option Value} {base : Heap} {k : Nat} {f : Addr} {fd : FuncData} {T : List NTab}
theorem pr1 {α β : Type} {F : α → β → Prop} {xs : List α} {b : β} {ys : List β} (h : Paired F xs (b :: ys)) : ∃ x r, xs = x :: r ∧ F x b ∧ Paired F r ys := by
  cases h with
  | cons a t => exact ⟨_, _, rfl, a, t⟩
theorem pr0 {α β : Type} {F : α → β → Prop} {xs : List α} (h : Paired F xs ([] : List β)) : xs = [] := by
  cases h
  rfl
theorem dok_take (F : FnOk K.P K.w K.K mg base CX0 k f fd ["draw", "size"] spTake) : FnOk K.P K.w K.K mg base CX0 k f fd ["draw", "size"] (spT T K 2 f_take) := F.imp fun vs H Q E h => by
  obtain ⟨S, rs, R, W, hl, sub, tb, wf, pr, ⟨d, L, C, n, rfl, h0, h1, hk⟩, q⟩ := h
  obtain ⟨v1, r1, rfl, ⟨rfl, hw⟩, z1⟩ := pr1 pr
  obtain ⟨v2, r2, rfl, p2, z2⟩ := pr1 z1
  cases pr0 z2
  cases (show Dx K S v2 (.int n) from p2)
  refine ⟨d, L, C, n, rfl, wf.kp _ hw, h0, h1, fun H' j D' kp j0 j1 => ?_⟩
  exact q _ _ _ H' (hk j j0 j1) (kp_stp sub wf hw tb D' kp) (show Dx K _ _ _ from .int j)
end
end Kf

set_option Elab.async false
set_option linter.all false
set_option maxRecDepth 100000
set_option maxHeartbeats 2000000
namespace Kf
open PySem PySem.Spec PyProof.Rows L2 LamX NdefX
section
variable {K : KW} {mg : Str → Option Value} {base : Heap}
/-! ### _law_pick -/
def t__law_pick : TSD := (sRet (dOp gIx (dVar 1) (dCal 2 f_take (dCons (dVar 0) (dCons (dCallO gLen 1) dNil)))))
def f__law_pick : List Rv → (Rv → Prop) → Prop := defT 2 t__law_pick
theorem dok__law_pick {f : Addr} {fd : FuncData} {Tb : List NTab} (F : L2.Fun K.K "_law_pick" "_law_pick" s__law_pick f fd) (T : Nm mg) (C__law_take : Cal K.P K.w K.K mg base 1 "_law_take" ["draw", "size"] (spT Tb K 2 f_take)) : FnOk K.P K.w K.K mg base CX0 2 f fd ["draw", "some"] (spT Tb K 2 f__law_pick) :=
  fnok F sc__law_pick (fun cdv A outer s H E B hK hT hG hr => by
    subst hK hT
    have hu := hu_of hr
    have hu65 := hr.u65
    have hu64 := hr.units
    have hng := ng_of hG
    exact (es_one (es_ret (ev_ix (ix_all hu65) og_ix (ev_name (pv 1)) (ev_cal C__law_take (by decide) hr (by rfl) (ea_cons (ev_name (pv 0)) (ea_cons (ev_callO call_lenA cg_len (by rfl) T.n_len (by decide +kernel) (pv 1)) ea_nil))) (fun _ _ => rfl)))))
/-! ### _law_due -/
def t__law_due : TSD := (sSeq (sPar 2 (dLst dNil) 3 (dC (.int 0)))
 (sSeq (sFor (dEnum (dCons (dVar 1) dNil)) (dTupG 2 (dConsG (dName 4) (dConsG (dName 5) dNilG)))
 (sSeq (sSet 6 (dComp (dSq (dOp gIx (dOp gIx (dVar 0) (dVar 3)) (dC (.int 1)))) (dTupG 2 (dConsG (dName 7) (dConsG (dName 8) dNilG))) (dTb (dOp gEq (dCallO gRepr 7) (dCallO gRepr 5))) (dVar 8) [7, 8]))
 (sSeq (sIf (dTb (dOp gEq (dVar 6) (dLst dNil)))
 (sRet (dMv 4))
 sNext)
 (sSeq (sSet 3 (dOp gIx (dVar 6) (dC (.int 0))))
 (sDrop (dOwnM "list" gAppend 2 (dCons (dOp gIx (dOp gIx (dVar 0) (dVar 3)) (dC (.int 0))) dNil)))))))
 (sRet (dMv 2))))
def f__law_due : List Rv → (Rv → Prop) → Prop := defT 9 t__law_due
theorem dok__law_due {f : Addr} {fd : FuncData} {Tb : List NTab} (F : L2.Fun K.K "_law_due" "_law_due" s__law_due f fd) (T : Nm mg) : FnOkG K.P K.w K.K mg base 3 f fd ["lists", "story"] (spT Tb K 2 f__law_due) :=
  (fnokG (ios := []) F sc__law_due (fun cdv A outer s H E B hK hT hG hr hgd => by
    subst hK hT
    have hu := hu_of hr
    have hu65 := hr.u65
    have hu64 := hr.units
    have hng := ng_of hG
    exact (es_cons (es_par (hng 2 (by decide)) (hng 3 (by decide)) (by decide) (ps_par (i := 2) (j := 3) (by rfl) sc__law_due.nd rfl rfl (by decide) rfl rfl (pa_cons (ev_lst ea_nil) (pa_cons ev_int pa_nil)) (by rfl)))
 (es_cons (es_for id_enum (gd_tup (gd_cons gd_name (gd_cons gd_name gd_nil))) (ps_for PassesOwn.never rfl (pi_enumQ (by rfl) T.n_enumerate (ea_cons (ev_name (pv 1)) ea_nil)) (pg_tup (n := 2) rfl (pgs_cons (pg_name (i := 4) sc__law_due.nd rfl (.inl rfl)) (pgs_cons (pg_name (i := 5) sc__law_due.nd rfl (.inr rfl)) pgs_nil)))
 (es_cons (es_setLc id_sq (gd_tup (gd_cons gd_name (gd_cons gd_name gd_nil))) (by decide) (hng 6 (by decide)) (ps_setLc (i := 6) (own := [("own", 7), ("to", 8)])  (by rfl) sc__law_due.nd rfl rfl (sw_true rfl rfl rfl (by decide +kernel)) (pi_sq (ev_D (ev_ix (ix_all hu65) og_ix (ev_ix (ix_all hu65) og_ix (ev_name (pv 0)) (ev_name (pv 3)) (fun _ _ => rfl)) ev_int (fun _ _ => rfl)))) (blkOk_by (own := [("own", 7), ("to", 8)]) (N := ["lists", "story", "found", "here", "spot", "event", "goals", "own", "to"]) (sc := defScope s__law_due) (by decide +kernel)) (fun _ _ _ _ _ => (pg_tup (n := 2) rfl (pgs_cons (pg_name (i := 7) sc__law_due.nd rfl (.inl rfl)) (pgs_cons (pg_name (i := 8) sc__law_due.nd rfl (.inl rfl)) pgs_nil)))) (fun _ _ _ _ _ => (et_pone (et_cmp (op_EqP hu64) og_eq (ev_callO (call_reprA hgd hr) cg_repr (by rfl) T.n_repr (by decide +kernel) (pv 7)) (ev_callO (call_reprA hgd hr) cg_repr (by rfl) T.n_repr (by decide +kernel) (pv 5)) (nomark _)))) (fun _ _ _ _ _ => ev_D (ev_name (pv 8)))))
 (es_cons (es_if (et_cmp (op_EqP hu64) og_eq (ev_name (pv 6)) (ev_lst ea_nil) (nomark _))
 (es_one (es_ret (ev_mv (pv 4))))
 es_nil)
 (es_cons (es_set (hng 3 (by decide)) (ps_set (i := 3) sc__law_due.nd rfl (.inl rfl) (ev_ix (ix_all hu65) og_ix (ev_name (pv 6)) ev_int (fun _ _ => rfl))))
 (es_one (es_expr (ev_ownM rfl om_append (pe_bm PySem.F.plainAttrs_list PySem.F.slot_list_append PySem.F.type_list_append mt_append (pv 2) (ea_cons (ev_ix (ix_all hu65) og_ix (ev_ix (ix_all hu65) og_ix (ev_name (pv 0)) (ev_name (pv 3)) (fun _ _ => rfl)) ev_int (fun _ _ => rfl)) ea_nil))))))))))
 (es_one (es_ret (ev_mv (pv 2)))))))).imp fun _ _ _ _ => spT_spM
/-! ### _law_story -/
def t__law_story : TSD := (sSeq (sPar 3 (dLst dNil) 4 (dC (.int 0)))
 (sSeq (sFor (dRange (dCons (dCal 2 f_take (dCons (dVar 0) (dCons (dC (.int 13)) dNil))) dNil)) (dName 5)
 (sSeq (sIf (dTb (dOp gEq (dOp gIx (dOp gIx (dVar 2) (dVar 4)) (dC (.int 1))) (dTup dNil)))
 (sRet (dMv 3))
 sNext)
 (sSeq (sAsg (dCal 2 f__law_pick (dCons (dVar 0) (dCons (dOp gIx (dOp gIx (dVar 2) (dVar 4)) (dC (.int 1))) dNil))) (dTupG 2 (dConsG (dName 6) (dConsG (dName 4) dNilG))))
 (sDrop (dOwnM "list" gAppend 3 (dCons (dVar 6) dNil))))))
 (sRet (dMv 3))))
def f__law_story : List Rv → (Rv → Prop) → Prop := defT 7 t__law_story
theorem dok__law_story {f : Addr} {fd : FuncData} {Tb : List NTab} (F : L2.Fun K.K "_law_story" "_law_story" s__law_story f fd) (T : Nm mg) (C__law_take : Cal K.P K.w K.K mg base 1 "_law_take" ["draw", "size"] (spT Tb K 2 f_take)) (C__law_pick : Cal K.P K.w K.K mg base 2 "_law_pick" ["draw", "some"] (spT Tb K 2 f__law_pick)) : FnOk K.P K.w K.K mg base CX0 3 f fd ["draw", "parts", "lists"] (spT Tb K 3 f__law_story) :=
  fnok F sc__law_story (fun cdv A outer s H E B hK hT hG hr => by
    subst hK hT
    have hu := hu_of hr
    have hu65 := hr.u65
    have hu64 := hr.units
    have hng := ng_of hG
    exact (es_cons (es_par (hng 3 (by decide)) (hng 4 (by decide)) (by decide) (ps_par (i := 3) (j := 4) (by rfl) sc__law_story.nd rfl rfl (by decide) rfl rfl (pa_cons (ev_lst ea_nil) (pa_cons ev_int pa_nil)) (by rfl)))
 (es_cons (es_for id_range1 gd_name (ps_for PassesOwn.never rfl (pi_range1 rfl T.n_range (ea_cons (ev_cal C__law_take (by decide) hr (by rfl) (ea_cons (ev_name (pv 0)) (ea_cons ev_int ea_nil))) ea_nil)) (pg_name (i := 5) sc__law_story.nd rfl (.inl rfl))
 (es_cons (es_if (et_cmp (op_EqP hu64) og_eq (ev_ix (ix_all hu65) og_ix (ev_ix (ix_all hu65) og_ix (ev_name (pv 2)) (ev_name (pv 4)) (fun _ _ => rfl)) ev_int (fun _ _ => rfl)) (ev_tup ea_nil) (nomark _))
 (es_one (es_ret (ev_mv (pv 3))))
 es_nil)
 (es_cons (es_asg (gd_tup (gd_cons gd_name (gd_cons gd_name gd_nil))) (ps_asg (ev_D (ev_cal C__law_pick (by decide) hr (by rfl) (ea_cons (ev_name (pv 0)) (ea_cons (ev_ix (ix_all hu65) og_ix (ev_ix (ix_all hu65) og_ix (ev_name (pv 2)) (ev_name (pv 4)) (fun _ _ => rfl)) ev_int (fun _ _ => rfl)) ea_nil)))) (pg_tup (n := 2) rfl (pgs_cons (pg_name (i := 6) sc__law_story.nd rfl (.inl rfl)) (pgs_cons (pg_name (i := 4) sc__law_story.nd rfl (.inl rfl)) pgs_nil)))))
 (es_one (es_expr (ev_ownM rfl om_append (pe_bm PySem.F.plainAttrs_list PySem.F.slot_list_append PySem.F.type_list_append mt_append (pv 3) (ea_cons (ev_name (pv 6)) ea_nil)))))))))
 (es_one (es_ret (ev_mv (pv 3)))))))
/-! ### _law_words -/
def t__law_words : TSD := (sSeq (sPar 2 (dLst (dCons (dC (.str "a")) (dCons (dC (.str "b")) (dCons (dC (.str "c")) (dCons (dC (.str "fail")) (dCons (dC (.str "mend")) (dCons (dC (.str "all")) (dCons (dC (.str "least")) (dCons (dC (.str "spare")) (dCons (dC (.str "before")) (dCons (dC (.str "top")) (dCons (dC (.str "none")) (dCons (dC (.str "zzzzzz")) dNil))))))))))))) 3 (dLst dNil))
 (sSeq (sFor (dRange (dCons (dVar 1) dNil)) (dName 4)
 (sSeq (sSet 5 (dCal 2 f__law_pick (dCons (dVar 0) (dCons (dVar 2) dNil))))
 (sSeq (sIf (dTb (dOp gEq (dCal 2 f_take (dCons (dVar 0) (dCons (dC (.int 3)) dNil))) (dC (.int 0))))
 (sSet 5 (dJoin "" (dComp (dRange (dCons (dOp gAdd (dC (.int 1)) (dCal 2 f_take (dCons (dVar 0) (dCons (dC (.int 6)) dNil)))) dNil)) (dName 7) dYes (dCal 2 f__law_pick (dCons (dVar 0) (dCons (dC (.str "abcxyz")) dNil))) [7])))
 sNext)
 (sSeq (sSet 6 (dOp gAdd (dLst (dCons (dVar 5) dNil)) (dComp (dSigns (dC (.str "abcdefghijklmnopqrstuvwxyz"))) (dName 8) dYes (dOp gAdd (dSl (dVar 5) dPartN (dPart (dC (.int 5)))) (dVar 8)) [8])))
 (sDrop (dOwnM "list" gAppend 3 (dCons (dOp gIx (dComp (dSq (dVar 6)) (dName 9) (dTb (dOpO2 (gIn true) (dVar 9) 3)) (dVar 9) [9]) (dC (.int 0))) dNil)))))))
 (sRet (dMv 3))))
def f__law_words : List Rv → (Rv → Prop) → Prop := defT 10 t__law_words
theorem dok__law_words {f : Addr} {fd : FuncData} {Tb : List NTab} (F : L2.Fun K.K "_law_words" "_law_words" s__law_words f fd) (T : Nm mg) (C__law_pick : Cal K.P K.w K.K mg base 2 "_law_pick" ["draw", "some"] (spT Tb K 2 f__law_pick)) (C__law_take : Cal K.P K.w K.K mg base 1 "_law_take" ["draw", "size"] (spT Tb K 2 f_take)) : FnOk K.P K.w K.K mg base CX0 3 f fd ["draw", "many"] (spT Tb K 2 f__law_words) :=
  fnok F sc__law_words (fun cdv A outer s H E B hK hT hG hr => by
    subst hK hT
    have hu := hu_of hr
    have hu65 := hr.u65
    have hu64 := hr.units
    have hng := ng_of hG
    exact (es_cons (es_parC (hng 2 (by decide)) (hng 3 (by decide)) (by decide) (ps_asg (pe_tup (pa_cons (ev_lst (ea_cons ev_str (ea_cons ev_str (ea_cons ev_str (ea_cons ev_str (ea_cons ev_str (ea_cons ev_str (ea_cons ev_str (ea_cons ev_str (ea_cons ev_str (ea_cons ev_str (ea_cons ev_str (ea_cons ev_str ea_nil))))))))))))) (pa_cons (ev_lst ea_nil) pa_nil))) (pg_tup (n := 2) rfl (pgs_cons (pg_name (i := 2) sc__law_words.nd rfl (.inl rfl)) (pgs_cons (pg_name (i := 3) sc__law_words.nd rfl (.inr rfl)) pgs_nil)))))
 (es_cons (es_for id_range1 gd_name (ps_for PassesOwn.never rfl (pi_range1 rfl T.n_range (ea_cons (ev_name (pv 1)) ea_nil)) (pg_name (i := 4) sc__law_words.nd rfl (.inl rfl))
 (es_cons (es_set (hng 5 (by decide)) (ps_set (i := 5) sc__law_words.nd rfl (.inr rfl) (ev_cal C__law_pick (by decide) hr (by rfl) (ea_cons (ev_name (pv 0)) (ea_cons (ev_name (pv 2)) ea_nil)))))
 (es_cons (es_if (et_cmp (op_EqP hu64) og_eq (ev_cal C__law_take (by decide) hr (by rfl) (ea_cons (ev_name (pv 0)) (ea_cons ev_int ea_nil))) ev_int (nomark _))
 (es_one (es_set (hng 5 (by decide)) (ps_set (i := 5) sc__law_words.nd rfl (.inr rfl) (ev_join rfl (ev_lc id_range1 gd_name (by decide) (pe_lc (own := [("j", 7)]) (g := gName 7) (by rfl) sc__law_words.nd (pi_range1 rfl T.n_range (ea_cons (ev_op op_addD og_add ev_int (ev_cal C__law_take (by decide) hr (by rfl) (ea_cons (ev_name (pv 0)) (ea_cons ev_int ea_nil)))) ea_nil)) (blkOk_by (own := [("j", 7)]) (N := ["draw", "many", "menu", "found", "k", "word", "some", "j", "sign", "one"]) (sc := defScope s__law_words) (by decide +kernel)) (fun _ _ _ _ _ => (pg_name (i := 7) sc__law_words.nd rfl (.inl rfl))) (fun _ _ _ _ _ => et_yes) (fun _ _ _ _ _ => ev_D (ev_cal C__law_pick (by decide) hr (by rfl) (ea_cons (ev_name (pv 0)) (ea_cons ev_str ea_nil))))))))))
 es_nil)
 (es_cons (es_set (hng 6 (by decide)) (ps_set (i := 6) sc__law_words.nd rfl (.inl rfl) (ev_op op_addD og_add (ev_lst (ea_cons (ev_name (pv 5)) ea_nil)) (ev_lc id_str gd_name (by decide) (pe_lc (own := [("sign", 8)]) (g := gName 8) (by rfl) sc__law_words.nd (pi_str (ev_D ev_str)) (blkOk_by (own := [("sign", 8)]) (N := ["draw", "many", "menu", "found", "k", "word", "some", "j", "sign", "one"]) (sc := defScope s__law_words) (by decide +kernel)) (fun _ _ _ _ _ => (pg_name (i := 8) sc__law_words.nd rfl (.inl rfl))) (fun _ _ _ _ _ => et_yes) (fun _ _ _ _ _ => ev_D (ev_op op_addD og_add (ev_sl rfl (ev_name (pv 5)) eo_none (eo_some ev_int)) (ev_name (pv 8)))))))))
 (es_one (es_expr (ev_ownM rfl om_append (pe_bm PySem.F.plainAttrs_list PySem.F.slot_list_append PySem.F.type_list_append mt_append (pv 3) (ea_cons (ev_ix (ix_all hu65) og_ix (ev_lc id_sq gd_name (by decide) (pe_lc (own := [("one", 9)]) (g := gName 9) (by rfl) sc__law_words.nd (pi_sq (ev_D (ev_name (pv 6)))) (blkOk_by (own := [("one", 9)]) (N := ["draw", "many", "menu", "found", "k", "word", "some", "j", "sign", "one"]) (sc := defScope s__law_words) (by decide +kernel)) (fun _ _ _ _ _ => (pg_name (i := 9) sc__law_words.nd rfl (.inl rfl))) (fun _ _ _ _ _ => (et_pone (et_cmpO2 (op_notInAll hu65) og_in (ev_name (pv 9)) (pv 3) (by with_unfolding_all rfl)))) (fun _ _ _ _ _ => ev_D (ev_name (pv 9))))) ev_int (fun _ _ => rfl)) ea_nil))))))))))
 (es_one (es_ret (ev_mv (pv 3)))))))
/-! ### _law_engine -/
def t__law_engine : TSD := (sSeq (sSet 2 (dCall gTuple (dCons (dCall gSortS (dCons (dCal 2 f__law_words (dCons (dVar 0) (dCons (dOp gAdd (dC (.int 1)) (dCal 2 f_take (dCons (dVar 0) (dCons (dC (.int 3)) dNil)))) dNil))) dNil)) dNil)))
 (sSeq (sSet 3 (dOp gAdd (dComp (dSq (dVar 2)) (dName 9) dYes (dTup (dCons (dC (.str "fail")) (dCons (dVar 9) dNil))) [9]) (dComp (dSq (dVar 2)) (dName 9) dYes (dTup (dCons (dC (.str "mend")) (dCons (dVar 9) dNil))) [9])))
 (sSeq (sPar 4 (dOp gAdd (dC (.int 1)) (dCal 2 f_take (dCons (dVar 0) (dCons (dVar 1) dNil)))) 5 (dLst dNil))
 (sSeq (sSet 6 (dComp (dRange (dCons (dOp gAdd (dC (.int 1)) (dCal 2 f_take (dCons (dVar 0) (dCons (dC (.int 2)) dNil)))) dNil)) (dName 10) dYes (dComp (dSq (dVar 3)) (dName 11) (dTb (dOp gGt (dCal 2 f_take (dCons (dVar 0) (dCons (dC (.int 3)) dNil))) (dC (.int 0)))) (dVar 11) [11]) [10]))
 (sSeq (sFor (dRange (dCons (dVar 4) dNil)) (dName 7)
 (sSeq (sSet 8 (dComp (dSq (dCal 2 f__law_pick (dCons (dVar 0) (dCons (dVar 6) dNil)))) (dName 11) dYes (dTup (dCons (dVar 11) (dCons (dCal 2 f_take (dCons (dVar 0) (dCons (dVar 4) dNil))) dNil))) [11]))
 (sDrop (dOwnM "list" gAppend 5 (dCons (dTup (dCons (dOp gEq (dCal 2 f_take (dCons (dVar 0) (dCons (dC (.int 3)) dNil))) (dC (.int 0))) (dCons (dCall gTuple (dCons (dVar 8) dNil)) dNil))) dNil)))))
 (sRet (dTup (dCons (dVar 2) (dCons (dCall gTuple (dCons (dVar 5) dNil)) dNil)))))))))
def f__law_engine : List Rv → (Rv → Prop) → Prop := defT 12 t__law_engine
theorem dok__law_engine {f : Addr} {fd : FuncData} {Tb : List NTab} (F : L2.Fun K.K "_law_engine" "_law_engine" s__law_engine f fd) (T : Nm mg) (C__law_words : Cal K.P K.w K.K mg base 3 "_law_words" ["draw", "many"] (spT Tb K 2 f__law_words)) (C__law_take : Cal K.P K.w K.K mg base 1 "_law_take" ["draw", "size"] (spT Tb K 2 f_take)) (C__law_pick : Cal K.P K.w K.K mg base 2 "_law_pick" ["draw", "some"] (spT Tb K 2 f__law_pick)) : FnOk K.P K.w K.K mg base CX0 4 f fd ["draw", "most"] (spT Tb K 2 f__law_engine) :=
  fnok F sc__law_engine (fun cdv A outer s H E B hK hT hG hr => by
    subst hK hT
    have hu := hu_of hr
    have hu65 := hr.u65
    have hu64 := hr.units
    have hng := ng_of hG
    exact (es_cons (es_set (hng 2 (by decide)) (ps_set (i := 2) sc__law_engine.nd rfl (.inl rfl) (ev_callTy call_tuple_of cg_tuple (by rfl) T.n_tuple (by decide +kernel) (ea_cons (ev_callB (cr_sortedS) cg_sortS (by rfl) T.n_sorted (by decide +kernel) (ea_cons (ev_cal C__law_words (by decide) hr (by rfl) (ea_cons (ev_name (pv 0)) (ea_cons (ev_op op_addD og_add ev_int (ev_cal C__law_take (by decide) hr (by rfl) (ea_cons (ev_name (pv 0)) (ea_cons ev_int ea_nil)))) ea_nil))) ea_nil)) ea_nil))))
 (es_cons (es_set (hng 3 (by decide)) (ps_set (i := 3) sc__law_engine.nd rfl (.inr rfl) (ev_op op_addD og_add (ev_lc id_sq gd_name (by decide) (pe_lc (own := [("part", 9)]) (g := gName 9) (by rfl) sc__law_engine.nd (pi_sq (ev_D (ev_name (pv 2)))) (blkOk_by (own := [("part", 9)]) (N := ["draw", "most", "parts", "every_event", "many", "lists", "shapes", "spot", "moves", "part", "k", "event"]) (sc := defScope s__law_engine) (by decide +kernel)) (fun _ _ _ _ _ => (pg_name (i := 9) sc__law_engine.nd rfl (.inl rfl))) (fun _ _ _ _ _ => et_yes) (fun _ _ _ _ _ => ev_D (ev_tup (ea_cons ev_str (ea_cons (ev_name (pv 9)) ea_nil)))))) (ev_lc id_sq gd_name (by decide) (pe_lc (own := [("part", 9)]) (g := gName 9) (by rfl) sc__law_engine.nd (pi_sq (ev_D (ev_name (pv 2)))) (blkOk_by (own := [("part", 9)]) (N := ["draw", "most", "parts", "every_event", "many", "lists", "shapes", "spot", "moves", "part", "k", "event"]) (sc := defScope s__law_engine) (by decide +kernel)) (fun _ _ _ _ _ => (pg_name (i := 9) sc__law_engine.nd rfl (.inl rfl))) (fun _ _ _ _ _ => et_yes) (fun _ _ _ _ _ => ev_D (ev_tup (ea_cons ev_str (ea_cons (ev_name (pv 9)) ea_nil)))))))))
 (es_cons (es_parC (hng 4 (by decide)) (hng 5 (by decide)) (by decide) (ps_asg (pe_tup (pa_cons (ev_op op_addD og_add ev_int (ev_cal C__law_take (by decide) hr (by rfl) (ea_cons (ev_name (pv 0)) (ea_cons (ev_name (pv 1)) ea_nil)))) (pa_cons (ev_lst ea_nil) pa_nil))) (pg_tup (n := 2) rfl (pgs_cons (pg_name (i := 4) sc__law_engine.nd rfl (.inr rfl)) (pgs_cons (pg_name (i := 5) sc__law_engine.nd rfl (.inl rfl)) pgs_nil)))))
 (es_cons (es_setLc id_range1 gd_name (by decide) (hng 6 (by decide)) (ps_setLc (i := 6) (own := [("k", 10)]) (g := gName 10) (by rfl) sc__law_engine.nd rfl rfl (sw_true rfl rfl rfl (by decide +kernel)) (pi_range1 rfl T.n_range (ea_cons (ev_op op_addD og_add ev_int (ev_cal C__law_take (by decide) hr (by rfl) (ea_cons (ev_name (pv 0)) (ea_cons ev_int ea_nil)))) ea_nil)) (blkOk_by (own := [("k", 10)]) (N := ["draw", "most", "parts", "every_event", "many", "lists", "shapes", "spot", "moves", "part", "k", "event"]) (sc := defScope s__law_engine) (by decide +kernel)) (fun _ _ _ _ _ => (pg_name (i := 10) sc__law_engine.nd rfl (.inl rfl))) (fun _ _ _ _ _ => et_yes) (fun _ _ _ _ _ => ev_D (ev_lc id_sq gd_name (by decide) (pe_lc (own := [("event", 11)]) (g := gName 11) (by rfl) sc__law_engine.nd (pi_sq (ev_D (ev_name (pv 3)))) (blkOk_by (own := [("event", 11)]) (by rfl)) (fun _ _ _ _ _ => (pg_name (i := 11) sc__law_engine.nd rfl (.inl rfl))) (fun _ _ _ _ _ => (et_pone (et_cmp op_gt og_gt (ev_cal C__law_take (by decide) hr (by rfl) (ea_cons (ev_name (pv 0)) (ea_cons ev_int ea_nil))) ev_int (nomark _)))) (fun _ _ _ _ _ => ev_D (ev_name (pv 11))))))))
 (es_cons (es_for id_range1 gd_name (ps_for PassesOwn.never rfl (pi_range1 rfl T.n_range (ea_cons (ev_name (pv 4)) ea_nil)) (pg_name (i := 7) sc__law_engine.nd rfl (.inl rfl))
 (es_cons (es_setLc id_sq gd_name (by decide) (hng 8 (by decide)) (ps_setLc (i := 8) (own := [("event", 11)]) (g := gName 11) (by rfl) sc__law_engine.nd rfl rfl (sw_true rfl rfl rfl (by decide +kernel)) (pi_sq (ev_D (ev_cal C__law_pick (by decide) hr (by rfl) (ea_cons (ev_name (pv 0)) (ea_cons (ev_name (pv 6)) ea_nil))))) (blkOk_by (own := [("event", 11)]) (N := ["draw", "most", "parts", "every_event", "many", "lists", "shapes", "spot", "moves", "part", "k", "event"]) (sc := defScope s__law_engine) (by decide +kernel)) (fun _ _ _ _ _ => (pg_name (i := 11) sc__law_engine.nd rfl (.inl rfl))) (fun _ _ _ _ _ => et_yes) (fun _ _ _ _ _ => ev_D (ev_tup (ea_cons (ev_name (pv 11)) (ea_cons (ev_cal C__law_take (by decide) hr (by rfl) (ea_cons (ev_name (pv 0)) (ea_cons (ev_name (pv 4)) ea_nil))) ea_nil))))))
 (es_one (es_expr (ev_ownM rfl om_append (pe_bm PySem.F.plainAttrs_list PySem.F.slot_list_append PySem.F.type_list_append mt_append (pv 5) (ea_cons (ev_tup (ea_cons (ev_cmp (op_EqP hu64) og_eq (ev_cal C__law_take (by decide) hr (by rfl) (ea_cons (ev_name (pv 0)) (ea_cons ev_int ea_nil))) ev_int (nomark _)) (ea_cons (ev_callTy call_tuple_of cg_tuple (by rfl) T.n_tuple (by decide +kernel) (ea_cons (ev_name (pv 8)) ea_nil)) ea_nil))) ea_nil))))))))
 (es_one (es_ret (ev_tup (ea_cons (ev_name (pv 2)) (ea_cons (ev_callTy call_tuple_of cg_tuple (by rfl) T.n_tuple (by decide +kernel) (ea_cons (ev_name (pv 5)) ea_nil)) ea_nil)))))))))))
end
end Kf

set_option Elab.async false
set_option linter.all false
set_option maxRecDepth 100000
set_option maxHeartbeats 2000000
namespace Kf
open PySem PySem.Spec PyProof.Rows L2 LamX NdefX
/-! ## pure: how names and events are shown -/
theorem reprChar_low : ∀ k : Fin 26, PySem.Builtin.Str.reprChar 39 (k.1 + 97) = [k.1 + 97] := by decide +kernel
theorem size_cps (z : Str) : z.cps.size = z.length := rfl
theorem fold_push (l : List Nat) (q : Nat) (h : ∀ c ∈ l, PySem.Builtin.Str.reprChar q c = [c]) : ∀ acc : Array Nat, (l.foldl (fun out c => out ++ (PySem.Builtin.Str.reprChar q c).toArray) acc).toList = acc.toList ++ l := by
  induction l with
  | nil => intro acc; simp
  | cons c r ih =>
    intro acc
    rw [List.foldl_cons, ih (fun x hx => h x (List.mem_cons_of_mem _ hx)), h c (List.mem_cons_self ..)]
    simp
theorem shown_low {z : Str} (h : ∀ c ∈ z.cps.toList, 97 ≤ c ∧ c ≤ 122) : (PyData.str z).shown.cps.toList = 39 :: (z.cps.toList ++ [39]) := by
  have hq : reprQuote z = 39 := by
    have h1 : z.cps.contains 39 = false := by
      rw [← Bool.not_eq_true]
      intro q
      have : 39 ∈ z.cps.toList := by simpa using q
      have := h 39 this
      omega
    unfold reprQuote
    rw [h1]
    rfl
  have hc : ∀ c ∈ z.cps.toList, PySem.Builtin.Str.reprChar 39 c = [c] := fun c hc => by
    have := h c hc
    have e := reprChar_low ⟨c - 97, by omega⟩
    have e2 : c - 97 + 97 = c := by omega
    rw [show ((⟨c - 97, by omega⟩ : Fin 26).1 + 97) = c from e2] at e
    exact e
  show (reprText z).cps.toList = _
  unfold reprText
  rw [hq]
  show ((z.cps.foldl _ #[39]).push 39).toList = _
  rw [← Array.foldl_toList, Array.toList_push, fold_push _ 39 hc]
  rfl
theorem cps_app (x y : Str) : (x ++ y).cps.toList = x.cps.toList ++ y.cps.toList := by
  show (x.cps ++ y.cps).toList = _
  simp
theorem tup1_cps (a : Str) : (tupleText [a]).cps.toList = 40 :: (a.cps.toList ++ [44, 41]) := by
  show ((("(" : Str) ++ a) ++ (",)" : Str)).cps.toList = _
  rw [cps_app, cps_app]
  rfl
theorem tup2_cps (a b : Str) : (tupleText [a, b]).cps.toList = 40 :: (a.cps.toList ++ 44 :: 32 :: (b.cps.toList ++ [41])) := by
  show ((("(" : Str) ++ (a ++ (", " : Str) ++ b)) ++ (")" : Str)).cps.toList = _
  rw [cps_app, cps_app, cps_app, cps_app]
  show [40] ++ ((_ ++ [44, 32]) ++ _) ++ [41] = _
  simp
theorem tup3_cps (a b c : Str) : (tupleText [a, b, c]).cps.toList = 40 :: (a.cps.toList ++ 44 :: 32 :: (b.cps.toList ++ 44 :: 32 :: (c.cps.toList ++ [41]))) := by
  show ((("(" : Str) ++ (a ++ (", " : Str) ++ (b ++ (", " : Str) ++ c))) ++ (")" : Str)).cps.toList = _
  rw [cps_app, cps_app, cps_app, cps_app, cps_app, cps_app]
  show [40] ++ ((_ ++ [44, 32]) ++ ((_ ++ [44, 32]) ++ _)) ++ [41] = _
  simp
/-- an event, as data -/
abbrev Ev := Str × Str
def evD (e : Ev) : PyData := .tuple [.str e.1, .str e.2]
def LowS (z : Str) : Prop := ∀ c ∈ z.cps.toList, 97 ≤ c ∧ c ≤ 122
theorem shown_ev {e : Ev} (h1 : LowS e.1) (h2 : LowS e.2) : (evD e).shown.cps.toList = 40 :: 39 :: (e.1.cps.toList ++ 39 :: 44 :: 32 :: 39 :: (e.2.cps.toList ++ [39, 41])) := by
  have e0 : (evD e).shown = tupleText [(PyData.str e.1).shown, (PyData.str e.2).shown] := by simp [evD, PyData.shown, PyData.shownAll]
  rw [e0, tup2_cps, shown_low h1, shown_low h2]
  simp
/-- cut at the first 39 -/
theorem cut39 : ∀ {xs ys u v : List Nat}, 39 ∉ xs → 39 ∉ ys → xs ++ 39 :: u = ys ++ 39 :: v → xs = ys ∧ u = v
  | [], [], _, _, _, _, e => by simpa using e
  | [], y :: ys, _, _, _, h, e => by
    have := List.cons.inj e
    exact absurd (this.1 ▸ List.mem_cons_self ..) h
  | x :: xs, [], _, _, h, _, e => by
    have := List.cons.inj e
    exact absurd (this.1 ▸ List.mem_cons_self ..) h
  | x :: xs, y :: ys, _, _, h1, h2, e => by
    obtain ⟨a, b⟩ := List.cons.inj e
    obtain ⟨c, d⟩ := cut39 (fun z => h1 (List.mem_cons_of_mem _ z)) (fun z => h2 (List.mem_cons_of_mem _ z)) b
    exact ⟨by rw [a, c], d⟩
theorem LowS.no39 {z : Str} (h : LowS z) : 39 ∉ z.cps.toList := fun q => by have := h 39 q; omega
theorem str_cps {x y : Str} (h : x.cps.toList = y.cps.toList) : x = y := PySem.W.str_of_cps h
theorem eqP_str (x y : Str) : eqP (.str x) (.str y) = decide (x = y) := by
  simp only [eqP]
  exact Bool.eq_iff_iff.mpr (by simp)
theorem eqP_pair (a b c d : PyData) : eqP (.tuple [a, b]) (.tuple [c, d]) = (eqP a c && eqP b d) := by simp [eqP, eqPs]
theorem eqP_ev {a b : Ev} : eqP (evD a) (evD b) = decide (a = b) := by
  unfold evD
  rw [eqP_pair, eqP_str, eqP_str]
  exact Bool.eq_iff_iff.mpr (by simp [Prod.ext_iff])
/-- what stands for a row's event is shown like it if and only if it is equal to it -/
structure OddV (d : PyData) : Prop where
  same : ∀ e : Ev, LowS e.1 → LowS e.2 → ((evD e).shown = d.shown ↔ eqP (evD e) d = true)
  sh : d.showable = true
  dp : d.depth ≤ 60
  len : d.shown.length ≤ 1000
  pl : plD d = true
theorem odd_ne {d : PyData} (h : ∀ e : Ev, LowS e.1 → LowS e.2 → (evD e).shown ≠ d.shown) (h2 : ∀ e : Ev, eqP (evD e) d = false) (a : d.showable = true) (b : d.depth ≤ 60) (c : d.shown.length ≤ 1000) (p : plD d = true) : OddV d :=
  ⟨fun e l1 l2 => ⟨fun q => absurd q (h e l1 l2), fun q => by rw [h2 e] at q; cases q⟩, a, b, c, p⟩
theorem odd_head {d : PyData} {x : Nat} {r : List Nat} (h : d.shown.cps.toList = x :: r) (hx : x ≠ 40) (h2 : ∀ e : Ev, eqP (evD e) d = false) (a : d.showable = true) (b : d.depth ≤ 60) (c : d.shown.length ≤ 1000) (p : plD d = true) : OddV d :=
  odd_ne (fun e l1 l2 q => by
    have := congrArg (fun s : Str => s.cps.toList) q
    rw [shown_ev l1 l2, h] at this
    exact hx (List.cons.inj this).1.symm) h2 a b c p
theorem shown_len (d : PyData) : d.shown.length = d.shown.cps.toList.length := (len_cps _).symm
theorem odd_none : OddV .none := odd_head (x := 78) (r := [111, 110, 101]) (by decide +kernel) (by decide) (fun e => by simp [evD, eqP]) rfl (by decide) (by decide +kernel) rfl
theorem odd_true : OddV (.bool true) := odd_head (x := 84) (r := [114, 117, 101]) (by decide +kernel) (by decide) (fun e => by simp [evD, eqP]) rfl (by decide) (by decide +kernel) rfl
theorem odd_five : OddV (.int 5) := odd_head (x := 53) (r := []) (by decide +kernel) (by decide) (fun e => by simp [evD, eqP]) (by decide) (by decide) (by decide +kernel) rfl
theorem odd_dict : OddV (.dict []) := odd_head (x := 123) (r := [125]) (by decide +kernel) (by decide) (fun e => by simp [evD, eqP]) rfl (by decide) (by decide +kernel) rfl
theorem odd_fail : OddV (.str "fail") := odd_head (x := 39) (r := [102, 97, 105, 108, 39]) (by decide +kernel) (by decide) (fun e => by simp [evD, eqP]) rfl (by decide) (by decide +kernel) rfl
theorem odd_emp : OddV (.tuple []) := odd_ne (fun e l1 l2 q => by
    have := congrArg (fun s : Str => s.cps.toList) q
    rw [shown_ev l1 l2, show (PyData.tuple []).shown.cps.toList = [40, 41] by decide +kernel] at this
    simp at this) (fun e => by simp [evD, eqP, eqPs]) rfl (by decide) (by decide +kernel) rfl
theorem low_fail : LowS "fail" := by unfold LowS; decide +kernel
theorem low_mend : LowS "mend" := by unfold LowS; decide +kernel
theorem low_wait : LowS "wait" := by unfold LowS; decide +kernel
theorem low_nobody : LowS "nobody" := by unfold LowS; decide +kernel
theorem odd_one : OddV (.tuple [.str "fail"]) := odd_ne (fun e l1 l2 q => by
    have := congrArg (fun s : Str => s.cps.toList) q
    rw [shown_ev l1 l2, show (PyData.tuple [.str "fail"]).shown = tupleText [(PyData.str "fail").shown] by simp [PyData.shown, PyData.shownAll], tup1_cps, shown_low low_fail] at this
    obtain ⟨_, q2⟩ := cut39 (u := _) (v := [44, 41]) l1.no39 low_fail.no39 (by simpa using this)
    simp at q2) (fun e => by simp [evD, eqP, eqPs]) rfl (by decide) (by decide +kernel) rfl
theorem odd_fnone : OddV (.tuple [.str "fail", .none]) := odd_ne (fun e l1 l2 q => by
    have := congrArg (fun s : Str => s.cps.toList) q
    rw [shown_ev l1 l2, show (PyData.tuple [.str "fail", .none]).shown = tupleText [(PyData.str "fail").shown, "None"] by simp [PyData.shown, PyData.shownAll], tup2_cps, shown_low low_fail] at this
    obtain ⟨_, q2⟩ := cut39 (u := _) (v := 44 :: 32 :: (("None" : Str).cps.toList ++ [41])) l1.no39 low_fail.no39 (by simpa using this)
    rw [show ("None" : Str).cps.toList = [78, 111, 110, 101] by decide +kernel] at q2
    simp at q2) (fun e => by simp [evD, eqP, eqPs]) rfl (by decide) (by decide +kernel) rfl
theorem shown_low_len {z : Str} (h : LowS z) : (PyData.str z).shown.length = z.length + 2 := by
  rw [shown_len, shown_low h]
  simp [size_cps]
theorem odd_ev {e : Ev} (h1 : LowS e.1) (h2 : LowS e.2) (l1 : e.1.length ≤ 100) (l2 : e.2.length ≤ 100) : OddV (evD e) := by
  refine ⟨fun a a1 a2 => ?_, by simp [evD, PyData.showable, PyData.showableAll], by simp [evD, PyData.depth, PyData.depthAll], ?_, by simp [evD, plD, plDs]⟩
  · rw [eqP_ev, decide_eq_true_eq]
    refine ⟨fun q => ?_, fun q => by rw [q]⟩
    have := congrArg (fun s : Str => s.cps.toList) q
    rw [shown_ev a1 a2, shown_ev h1 h2] at this
    obtain ⟨q1, q2⟩ := cut39 a1.no39 h1.no39 (List.cons.inj (List.cons.inj this).2).2
    obtain ⟨q3, _⟩ := cut39 (u := [41]) (v := [41]) a2.no39 h2.no39 (by simpa using q2)
    exact Prod.ext (str_cps q1) (str_cps q3)
  · rw [shown_len, shown_ev h1 h2]
    simp [size_cps]
    omega
theorem odd_list {z : Str} (h : LowS z) (l : z.length ≤ 100) : OddV (.list [.str "fail", .str z]) := by
  have e0 : (PyData.list [.str "fail", .str z]).shown.cps.toList = 91 :: ((PyData.str "fail").shown.cps.toList ++ 44 :: 32 :: ((PyData.str z).shown.cps.toList ++ [93])) := by
    have e : (PyData.list [.str "fail", .str z]).shown = listText [(PyData.str "fail").shown, (PyData.str z).shown] := by simp [PyData.shown, PyData.shownAll]
    rw [e]
    show (((("[" : Str) ++ "" ++ _) ++ (", " : Str) ++ _) ++ ("]" : Str)).cps.toList = _
    rw [cps_app, cps_app, cps_app, cps_app, cps_app]
    show ((([91] ++ []) ++ _) ++ [44, 32] ++ _) ++ [93] = _
    simp
  refine odd_head (x := 91) e0 (by decide) (fun e => by simp [evD, eqP]) (by simp [PyData.showable, PyData.showableAll]) (by simp [PyData.depth, PyData.depthAll]) ?_ (by simp [plD, plDs])
  rw [shown_len, e0, shown_low low_fail, shown_low h]
  have : ("fail" : Str).cps.toList.length = 4 := by decide +kernel
  simp [size_cps] at this ⊢
  omega
theorem odd_three {z : Str} (h : LowS z) (l : z.length ≤ 100) : OddV (.tuple [.str "fail", .str z, .int 0]) := by
  have e0 : (PyData.tuple [.str "fail", .str z, .int 0]).shown.cps.toList = 40 :: ((PyData.str "fail").shown.cps.toList ++ 44 :: 32 :: ((PyData.str z).shown.cps.toList ++ 44 :: 32 :: ([48] ++ [41]))) := by
    have e : (PyData.tuple [.str "fail", .str z, .int 0]).shown = tupleText [(PyData.str "fail").shown, (PyData.str z).shown, (PyData.int 0).shown] := by simp [PyData.shown, PyData.shownAll]
    rw [e, tup3_cps, show (PyData.int 0).shown.cps.toList = [48] by decide +kernel]
  refine odd_ne (fun e l1 l2 q => ?_) (fun e => by simp [evD, eqP, eqPs]) (by simp [PyData.showable, PyData.showableAll]) (by simp [PyData.depth, PyData.depthAll]) ?_ (by simp [plD, plDs])
  · have := congrArg (fun s : Str => s.cps.toList) q
    rw [shown_ev l1 l2, e0, shown_low low_fail, shown_low h] at this
    obtain ⟨_, q2⟩ := cut39 (u := _) (v := 44 :: 32 :: 39 :: (z.cps.toList ++ 39 :: 44 :: 32 :: [48, 41])) l1.no39 low_fail.no39 (by simpa using this)
    obtain ⟨_, q3⟩ := cut39 (u := [41]) (v := 44 :: 32 :: [48, 41]) l2.no39 h.no39 (by simpa using q2)
    simp at q3
  · rw [shown_len, e0, shown_low low_fail, shown_low h]
    have : ("fail" : Str).cps.toList.length = 4 := by decide +kernel
    simp [size_cps] at this ⊢
    omega
end Kf

set_option Elab.async false
set_option linter.all false
set_option maxRecDepth 100000
set_option maxHeartbeats 2000000
namespace Kf
open PySem PySem.Spec PyProof.Rows L2 LamX NdefX
local macro_rules
  | `(tactic| infer_instance) => `(tactic| (first
  | simp only [z_seq, z_if, z_ifT, z_ifF, z_ret, z_retN, z_next, z_set, z_drop, z_par, z_asg, z_for, z_setIt, z_sitA, z_sitB, z_sitH, z_var, z_varO, z_varD, z_varM, z_varB, z_mv, z_mvO, z_mvD, z_mvM, z_mvB, z_c, z_hold, z_op, z_cons, z_nil, z_toDd, z_toDo, z_stbd, z_stbo, z_stbm, z_stbb, z_call, z_toDs, z_dsK, z_dsnil, z_dsd, z_tup, z_lst, z_tru, z_truO, z_truOl, z_truOk, z_truOd, z_tb, z_tbK, z_and, z_andT, z_andF, z_or, z_orT, z_orF, z_not, z_andV, z_andVT, z_andVF, z_orV, z_orVT, z_orVF, z_notV, z_notVb, z_ifx, z_ifxT, z_ifxF, z_chain, z_chBT, z_chBF, z_chC, z_chainV, z_chVT, z_chVF, z_isi, z_cal, z_calB, z_bnil, z_bcons, z_bown, z_resn, z_resl, z_resr, z_look, z_lookO, z_lookD, z_callO, z_opO2, z_opO1, z_ixO, z_partN, z_part, z_partK, z_sl, z_slL, z_slT, z_rev, z_revK, z_comp, z_sq, z_sqK, z_itl, z_itt, z_range, z_range2, z_enum, z_signs, z_signK, z_name, z_tupG, z_consG, z_nilG, z_yes, z_ownM, z_ownG, z_ownH, z_pairsN, z_pairsC, z_dict, z_dict0, z_hnil, z_hcons, z_hhole, z_hlast, z_rep, z_calW, z_calT, z_holdW, z_holdW0, z_varA, z_mvA, z_stbA, z_isN, z_isnN, z_isnB, z_isnI, z_isnS, z_isnL, z_isnT, z_isnD, z_isnO, z_isnOb, z_isnA, z_join, z_holdP, z_holdB, z_holdX, z_calm, z_make, z_metX, z_calX, z_xof, z_told, z_isX, z_xf, z_raise, z_raiseN, z_att, z_iSeq, z_iOf, z_iFld, isStrD, isTupD, isLstD, isBoolD, isIntD, zm_cons, zm_nil, za_cons, za_nil, zs_succ, zs_zero, zg_succ, zg_zero, zo_some, zo_none, zn_t, zn_f, zw_nil, zw_cons, zk_nil, zk_cons, zk_d, zk_n, zk_o, zq_str, decide_true, decide_false, Int.reduceBEq, Int.reduceBNe, Nat.reduceBEq, Int.reduceAdd, Int.reduceSub, Int.reduceNeg, Nat.reduceAdd, Nat.reduceSub]
  | ((with_reducible refine setK_ok ?_ ?_); (· exact rfl))
  | ((with_reducible refine calK_ok ?_ ?_); (· exact rfl))
  | with_reducible refine holdA_b ?_
  | with_reducible refine holdA_i ?_
  | with_reducible refine truK_b ?_
  | ((with_reducible refine isiK_ok ?_ ?_); (· exact rfl))
  | ((with_reducible refine trdK_ok ?_ ?_); (· exact rfl))
  | ((with_reducible refine calBK_ok ?_ ?_); (· exact rfl))
  | ((with_reducible refine tupK_ok ?_ ?_); (· exact rfl))
  | ((with_reducible refine lstK_ok ?_ ?_); (· exact rfl))
  | ((with_reducible refine parK_ok ?_ ?_ ?_); (· exact rfl); (· exact rfl))
  | ((with_reducible refine tupG_ok ?_ ?_); (· exact rfl))
  | ((with_reducible refine ownK_ok ?_ ?_); (· exact rfl))
  | with_reducible refine holdA_s ?_
  | with_reducible refine holdA_n ?_
  | with_reducible refine truK_l ?_
  | with_reducible refine truK_t ?_
  | with_reducible refine truK_i ?_
  | with_reducible refine truK_n ?_
  | ((with_reducible refine dictK_ok ?_ ?_ ?_); (· exact rfl); (· exact rfl))
  | ((with_reducible refine calTK_ok ?_ ?_ ?_ ?_); (· exact rfl); (· exact rfl); (· exact rfl))
  | ((with_reducible refine calWK_ok ?_ ?_ ?_ ?_ ?_); (· exact rfl); (· exact rfl); (· exact rfl); (· exact rfl))
  | ((with_reducible refine makeK_ok ?_ ?_); (· exact rfl))
  | ((with_reducible refine calXK_ok ?_ ?_); (· exact rfl))
  | ((with_reducible refine metA_ok ?_ ?_); (· exact rfl))
  | ((with_reducible refine metK_ok ?_ ?_); (· with_unfolding_all rfl))
  | ((with_reducible apply attK_ok); (· with_unfolding_all rfl))
  | ((with_reducible refine fldK_ok ?_ ?_ ?_); (· with_unfolding_all rfl); (· exact rfl))
  | ((with_reducible refine raiseNK_ok ?_ ?_); (· exact rfl))
  | with_reducible refine holdT_ok ?_
  | with_reducible refine zo_int ?_
  | with_reducible refine zo_eqI ?_
  | with_reducible refine zo_neI ?_
  | with_reducible refine zo_add ?_
  | with_reducible refine zo_lenL ?_
  | with_reducible refine zo_lenT ?_
  | with_reducible refine zo_lstL ?_
  | with_reducible refine zo_lstT ?_
  | with_reducible refine zo_tupL ?_
  | with_reducible refine zo_tupT ?_
  | with_reducible refine zo_min2 ?_
  | with_reducible refine zo_max2 ?_
  | with_reducible refine zo_eqS ?_
  | with_reducible refine zo_neS ?_
  | ((with_reducible apply zo_ixL); (· exact rfl))
  | ((with_reducible apply zo_ixT); (· exact rfl))))
/-! ## pure: names, lists of names -/
theorem q_is_name {d : PyData} {R : Rv → Prop} (hn : nN d = true) (hl : ∀ z, d = .str z → z.length ≤ 1000) (k : R (.d (.bool (nmQ d)))) : f_is_name [.d d] R := by
  unfold f_is_name t_is_name
  dsimp only [defT, defM, zm_cons, zm_nil, za_cons, za_nil, List.length_cons, List.length_nil, Nat.reduceAdd, Nat.reduceSub, List.replicate]
  cases d with
  | str z =>
    have hz := hl z rfl
    simp only [nmQ] at k
    (repeat infer_instance)
    refine zo_lenS ?_ ?_
    · omega
    (repeat infer_instance)
    refine chB_b (fun h1 => ?_) (fun h1 => ?_)
    · have h1 : decide (1 ≤ z.length) = true := decide_eq_true (by have := of_decide_eq_true h1; omega)
      rw [h1] at k
      (repeat infer_instance)
      refine ifS_b (fun h2 => ?_) (fun h2 => ?_)
      · (repeat infer_instance)
        have h2 : decide (z.length ≤ 6) = false := decide_eq_false (by simp at h2; omega)
        rw [h2] at k
        exact k
      · (repeat infer_instance)
        have h2 : decide (z.length ≤ 6) = true := by
          simp at h2
          exact decide_eq_true (by omega)
        rw [h2] at k
        unfold signsD
        refine comp_map (fun c => PyData.str ⟨#[c]⟩) (fun c => .bool (decide (c ∈ lettersS.cps.toList))) (by rw [len_cps]; omega) (fun c hc k1 q1 => ?_) ?_
        · (repeat infer_instance)
          refine zo_inS ?_
          (repeat infer_instance)
          exact q1 _ rfl
        · (repeat infer_instance)
          exact zo_all (by (repeat infer_instance); exact k)
    · have h1 : decide (1 ≤ z.length) = false := decide_eq_false fun q => by have := of_decide_eq_false h1; omega
      rw [h1] at k
      (repeat infer_instance)
      exact k
  | dict kvs =>
    (repeat infer_instance)
    refine isiK_ok hn ?_
    (repeat infer_instance)
    exact k
  | _ =>
    (repeat infer_instance)
    exact k
/-! ### ascending -/
def ascB : List PyData → Bool
  | a :: b :: r => PySem.W.dataLt a b && ascB (b :: r)
  | _ => true
/-- each two that stand beside one another can be compared -/
def CmpS (a b : PyData) : Prop := (PySem.W.alike a b = true ∧ a ≠ .none ∧ a.depth ≤ 60) ∧ plD a = true ∧ plD b = true
theorem range_get (i : Int) (n k : Nat) (h : k < n) : (rangeD i n)[k]? = some (.int (i + k)) := by
  unfold rangeD
  rw [List.getElem?_map, List.getElem?_range h]
  rfl
theorem asc_all : ∀ (ds : List PyData), ((List.range (ds.length - 1)).all fun i => match ds[i]?, ds[i + 1]? with | some a, some b => PySem.W.dataLt a b | _, _ => true) = ascB ds
  | [] => rfl
  | [a] => rfl
  | a :: b :: r => by
    have ih := asc_all (b :: r)
    show ((List.range (r.length + 1)).all _) = (PySem.W.dataLt a b && ascB (b :: r))
    rw [List.range_succ_eq_map, List.all_cons, List.all_map, ← ih]
    rfl
theorem q_are_ascending {v : PyData} {ds : List PyData} {R : Rv → Prop} (hv : itemsD v = some ds) (hl : ds.length ≤ 1000) (hc : ∀ i a b, ds[i]? = some a → ds[i + 1]? = some b → CmpS a b) (k : R (.d (.bool (ascB ds)))) : f_are_ascending [.d v] R := by
  have hv : v = .list ds ∨ v = .tuple ds := by
    cases v <;> simp [itemsD] at hv
    · exact .inl (by rw [hv])
    · exact .inr (by rw [hv])
  unfold f_are_ascending t_are_ascending
  dsimp only [defT, defM, zm_cons, zm_nil, za_cons, za_nil, List.length_cons, List.length_nil, Nat.reduceAdd, Nat.reduceSub, List.replicate]
  have len : ∀ {k : Rv → Prop}, k (.d (.int ds.length)) → gLen [v] k := fun {k} q => by rcases hv with rfl | rfl <;> exact q
  have ixn : ∀ {m : Nat} {x : PyData} {k : Rv → Prop}, ds[m]? = some x → k (.d x) → gIx v (.int (m : Int)) k := fun {m x k} h q => by rcases hv with rfl | rfl <;> first | exact zo_ixLn h q | exact zo_ixTn h q
  clear hv
  (repeat infer_instance)
  refine len ?_
  (repeat infer_instance)
  refine ⟨by omega, ?_⟩
  have e0 : ((ds.length : Int) - 1).toNat = ds.length - 1 := by omega
  rw [e0]
  have e1 : rangeD 1 (ds.length - 1) = (List.range (ds.length - 1)).map fun i : Nat => PyData.int (1 + (i : Int)) := rfl
  rw [e1]
  refine comp_map (fun i : Nat => PyData.int (1 + (i : Int))) (fun i => .bool (match ds[i]?, ds[i + 1]? with | some a, some b => PySem.W.dataLt a b | _, _ => true)) (by simp; omega) (fun i hi k1 q1 => ?_) ?_
  · have hi : i < ds.length - 1 := List.mem_range.mp hi
    obtain ⟨a, ha⟩ : ∃ a, ds[i]? = some a := ⟨_, List.getElem?_eq_getElem (by omega)⟩
    obtain ⟨b, hb⟩ : ∃ b, ds[i + 1]? = some b := ⟨_, List.getElem?_eq_getElem (by omega)⟩
    (repeat infer_instance)
    rw [show (1 + (i : Int) - 1) = ((i : Nat) : Int) by omega]
    refine ixn ha ?_
    (repeat infer_instance)
    rw [show (1 + (i : Int)) = ((i + 1 : Nat) : Int) by omega]
    refine ixn hb ?_
    (repeat infer_instance)
    refine zo_cmpD (hc i a b ha hb) ?_
    (repeat infer_instance)
    have := q1
    rw [ha, hb] at q1
    exact q1 _ rfl
  · (repeat infer_instance)
    refine zo_all ?_
    (repeat infer_instance)
    rw [asc_all]
    exact k
end Kf

set_option Elab.async false
set_option linter.all false
set_option maxRecDepth 100000
set_option maxHeartbeats 2000000
namespace Kf
open PySem PySem.Spec PyProof.Rows L2 LamX NdefX
local macro_rules
  | `(tactic| infer_instance) => `(tactic| (first
  | simp only [z_seq, z_if, z_ifT, z_ifF, z_ret, z_retN, z_next, z_set, z_drop, z_par, z_asg, z_for, z_setIt, z_sitA, z_sitB, z_sitH, z_var, z_varO, z_varD, z_varM, z_varB, z_mv, z_mvO, z_mvD, z_mvM, z_mvB, z_c, z_hold, z_op, z_cons, z_nil, z_toDd, z_toDo, z_stbd, z_stbo, z_stbm, z_stbb, z_call, z_toDs, z_dsK, z_dsnil, z_dsd, z_tup, z_lst, z_tru, z_truO, z_truOl, z_truOk, z_truOd, z_tb, z_tbK, z_and, z_andT, z_andF, z_or, z_orT, z_orF, z_not, z_andV, z_andVT, z_andVF, z_orV, z_orVT, z_orVF, z_notV, z_notVb, z_ifx, z_ifxT, z_ifxF, z_chain, z_chBT, z_chBF, z_chC, z_chainV, z_chVT, z_chVF, z_isi, z_cal, z_calB, z_bnil, z_bcons, z_bown, z_resn, z_resl, z_resr, z_look, z_lookO, z_lookD, z_callO, z_opO2, z_opO1, z_ixO, z_partN, z_part, z_partK, z_sl, z_slL, z_slT, z_rev, z_revK, z_comp, z_sq, z_sqK, z_itl, z_itt, z_range, z_range2, z_enum, z_signs, z_signK, z_name, z_tupG, z_consG, z_nilG, z_yes, z_ownM, z_ownG, z_ownH, z_pairsN, z_pairsC, z_dict, z_dict0, z_hnil, z_hcons, z_hhole, z_hlast, z_rep, z_calW, z_calT, z_holdW, z_holdW0, z_varA, z_mvA, z_stbA, z_isN, z_isnN, z_isnB, z_isnI, z_isnS, z_isnL, z_isnT, z_isnD, z_isnO, z_isnOb, z_isnA, z_join, z_holdP, z_holdB, z_holdX, z_calm, z_make, z_metX, z_calX, z_xof, z_told, z_isX, z_xf, z_raise, z_raiseN, z_att, z_iSeq, z_iOf, z_iFld, isStrD, isTupD, isLstD, isBoolD, isIntD, zm_cons, zm_nil, za_cons, za_nil, zs_succ, zs_zero, zg_succ, zg_zero, zo_some, zo_none, zn_t, zn_f, zw_nil, zw_cons, zk_nil, zk_cons, zk_d, zk_n, zk_o, zq_str, decide_true, decide_false, Int.reduceBEq, Int.reduceBNe, Nat.reduceBEq, Int.reduceAdd, Int.reduceSub, Int.reduceNeg, Nat.reduceAdd, Nat.reduceSub]
  | ((with_reducible refine setK_ok ?_ ?_); (· exact rfl))
  | ((with_reducible refine calK_ok ?_ ?_); (· exact rfl))
  | with_reducible refine holdA_b ?_
  | with_reducible refine holdA_i ?_
  | with_reducible refine truK_b ?_
  | ((with_reducible refine isiK_ok ?_ ?_); (· exact rfl))
  | ((with_reducible refine trdK_ok ?_ ?_); (· exact rfl))
  | ((with_reducible refine calBK_ok ?_ ?_); (· exact rfl))
  | ((with_reducible refine tupK_ok ?_ ?_); (· exact rfl))
  | ((with_reducible refine lstK_ok ?_ ?_); (· exact rfl))
  | ((with_reducible refine parK_ok ?_ ?_ ?_); (· exact rfl); (· exact rfl))
  | ((with_reducible refine tupG_ok ?_ ?_); (· exact rfl))
  | ((with_reducible refine ownK_ok ?_ ?_); (· exact rfl))
  | with_reducible refine holdA_s ?_
  | with_reducible refine holdA_n ?_
  | with_reducible refine truK_l ?_
  | with_reducible refine truK_t ?_
  | with_reducible refine truK_i ?_
  | with_reducible refine truK_n ?_
  | ((with_reducible refine dictK_ok ?_ ?_ ?_); (· exact rfl); (· exact rfl))
  | ((with_reducible refine calTK_ok ?_ ?_ ?_ ?_); (· exact rfl); (· exact rfl); (· exact rfl))
  | ((with_reducible refine calWK_ok ?_ ?_ ?_ ?_ ?_); (· exact rfl); (· exact rfl); (· exact rfl); (· exact rfl))
  | ((with_reducible refine makeK_ok ?_ ?_); (· exact rfl))
  | ((with_reducible refine calXK_ok ?_ ?_); (· exact rfl))
  | ((with_reducible refine metA_ok ?_ ?_); (· exact rfl))
  | ((with_reducible refine metK_ok ?_ ?_); (· with_unfolding_all rfl))
  | ((with_reducible apply attK_ok); (· with_unfolding_all rfl))
  | ((with_reducible refine fldK_ok ?_ ?_ ?_); (· with_unfolding_all rfl); (· exact rfl))
  | ((with_reducible refine raiseNK_ok ?_ ?_); (· exact rfl))
  | with_reducible refine holdT_ok ?_
  | with_reducible refine zo_int ?_
  | with_reducible refine zo_eqI ?_
  | with_reducible refine zo_neI ?_
  | with_reducible refine zo_add ?_
  | with_reducible refine zo_lenL ?_
  | with_reducible refine zo_lenT ?_
  | with_reducible refine zo_lstL ?_
  | with_reducible refine zo_lstT ?_
  | with_reducible refine zo_tupL ?_
  | with_reducible refine zo_tupT ?_
  | with_reducible refine zo_min2 ?_
  | with_reducible refine zo_max2 ?_
  | with_reducible refine zo_eqS ?_
  | with_reducible refine zo_neS ?_
  | ((with_reducible apply zo_ixL); (· exact rfl))
  | ((with_reducible apply zo_ixT); (· exact rfl))))
/-! ## pure: the machine's judging -/
/-- no text and no list is longer than a thousand, n deep at most -/
def fitD : Nat → PyData → Bool
  | _, .str z => decide (z.length ≤ 1000)
  | n + 1, .list ds => decide (ds.length ≤ 1000) && ds.all (fitD n)
  | n + 1, .tuple ds => decide (ds.length ≤ 1000) && ds.all (fitD n)
  | n + 1, .dict kvs => decide (kvs.length ≤ 1000) && kvs.all fun p => fitD n p.2
  | 0, .list _ => false
  | 0, .tuple _ => false
  | 0, .dict _ => false
  | _, _ => true
theorem fit_str {n : Nat} {z : Str} (h : fitD n (.str z) = true) : z.length ≤ 1000 := by cases n <;> exact of_decide_eq_true h
theorem fit_tup {n : Nat} {ds : List PyData} (h : fitD n (.tuple ds) = true) : ds.length ≤ 1000 ∧ ∃ m, n = m + 1 ∧ ∀ d ∈ ds, fitD m d = true := by
  cases n with
  | zero => cases h
  | succ m =>
    have h : (decide (ds.length ≤ 1000) && ds.all (fitD m)) = true := h
    rw [Bool.and_eq_true] at h
    exact ⟨of_decide_eq_true h.1, m, rfl, fun d hd => List.all_eq_true.mp h.2 d hd⟩
theorem pl_mem : ∀ {ds : List PyData}, plDs ds = true → ∀ d ∈ ds, plD d = true
  | [], _ => by simp
  | x :: r, h => by
    rw [plDs, Bool.and_eq_true] at h
    intro d hd
    rcases List.mem_cons.mp hd with rfl | hd
    · exact h.1
    · exact pl_mem h.2 d hd
theorem pl_tup {ds : List PyData} (h : plD (.tuple ds) = true) : ∀ d ∈ ds, plD d = true := by
  exact pl_mem (by simpa [plD] using h)
theorem pl_all {ds : List PyData} (h : ∀ d ∈ ds, plD d = true) : plDs ds = true := by
  induction ds with
  | nil => rfl
  | cons x r ih =>
    rw [plDs, Bool.and_eq_true]
    exact ⟨h x (List.mem_cons_self ..), ih fun d hd => h d (List.mem_cons_of_mem _ hd)⟩
theorem pl_nN {d : PyData} (h : plD d = true) : nN d = true := by
  cases d with
  | dict kvs =>
    cases kvs with
    | nil => rfl
    | cons p r =>
      obtain ⟨a, b⟩ := p
      simp only [plD, plDk, Bool.and_eq_true] at h
      simp only [nN, tkd]
      exact h.1.1
  | _ => rfl
def strsD (l : List Str) : PyData := .tuple (l.map .str)
theorem nodcts_strs : ∀ l : List Str, nodcts (l.map .str) = true
  | [] => rfl
  | s :: r => by simp [nodcts, nodct, nodcts_strs r]
theorem dpDs_strs : ∀ l : List Str, dpDs (l.map .str) ≤ 60
  | [] => by simp [dpDs]
  | s :: r => by
    have := dpDs_strs r
    simp [dpDs, dpD]
    omega
theorem plDs_strs (l : List Str) : plDs (l.map .str) = true := pl_all fun d hd => by
  obtain ⟨s, _, rfl⟩ := List.mem_map.mp hd
  rfl
/-- is a value one of these names? -/
def inB (l : List Str) : PyData → Bool
  | .str z => decide (z ∈ l)
  | _ => false
theorem any_in (l : List Str) (d : PyData) : ((l.map PyData.str).any fun z => eqP z d) = inB l d := by
  cases d with
  | str z =>
    unfold inB
    induction l with
    | nil => simp
    | cons x r ih =>
      rw [List.map_cons, List.any_cons, ih, eqP_str]
      by_cases h : x = z
      · simp [h]
      · have : ¬ z = x := fun q => h q.symm
        simp [h, this]
  | _ =>
    unfold inB
    induction l with
    | nil => rfl
    | cons x r ih =>
      rw [List.map_cons, List.any_cons, ih]
      simp [eqP]
theorem zo_inStrs {l : List Str} {d : PyData} {k : Rv → Prop} (hp : plD d = true) (q : k (.d (.bool (inB l d)))) : gIn false d (.tuple (l.map .str)) k :=
  zo_inT ⟨.inr (nodcts_strs l), dpDs_strs l, hp, plDs_strs l⟩ (by rw [any_in]; exact q)
def evB (ps : List Str) : PyData → Bool
  | .tuple [a, b] => inB ["fail", "mend"] a && inB ps b
  | _ => false
theorem q_is_event {v : PyData} {ps : List Str} {R : Rv → Prop} (hp : plD v = true) (k : R (.d (.bool (evB ps v)))) : f_is_event [.d v, .d (strsD ps)] R := by
  unfold f_is_event t_is_event
  dsimp only [defT, defM, zm_cons, zm_nil, za_cons, za_nil, List.length_cons, List.length_nil, Nat.reduceAdd, Nat.reduceSub, List.replicate]
  cases v with
  | tuple ds =>
    have pl := pl_tup hp
    (repeat infer_instance)
    refine ifS_b (fun h => ?_) (fun h => ?_)
    · (repeat infer_instance)
      have e : evB ps (.tuple ds) = false := by
        unfold evB
        split
        · rename_i q
          cases q
          simp at h
        · rfl
      rw [e] at k
      exact k
    · obtain ⟨a, b, rfl⟩ : ∃ a b, ds = [a, b] := by
        match ds, h with
        | [a, b], _ => exact ⟨a, b, rfl⟩
        | [], h => simp at h
        | [_], h => simp at h
        | _ :: _ :: _ :: _, h => simp at h; omega
      (repeat infer_instance)
      refine zo_inStrs (l := ["fail", "mend"]) (pl a (by simp)) ?_
      (repeat infer_instance)
      have k : R (.d (.bool (inB ["fail", "mend"] a && inB ps b))) := k
      refine andV_b (fun h1 => ?_) (fun h1 => ?_)
      · (repeat infer_instance)
        refine zo_inStrs (pl b (by simp)) ?_
        (repeat infer_instance)
        rw [h1] at k
        exact k
      · rw [h1] at k
        exact k
  | dict kvs =>
    (repeat infer_instance)
    refine isiK_ok (pl_nN hp) ?_
    (repeat infer_instance)
    exact k
  | _ =>
    (repeat infer_instance)
    exact k
/-- is_integer of any value -/
def intB : PyData → Bool
  | .int _ => true
  | _ => false
theorem q_is_integer {v : PyData} {R : Rv → Prop} (hn : nN v = true) (k : R (.d (.bool (intB v)))) : f_is_integer [.d v] R := by
  unfold f_is_integer t_is_integer
  dsimp only [defT, defM, zm_cons, zm_nil, za_cons, za_nil, List.length_cons, List.length_nil, Nat.reduceAdd, Nat.reduceSub, List.replicate]
  cases v with
  | dict kvs =>
    (repeat infer_instance)
    refine isiK_ok hn ?_
    (repeat infer_instance)
    exact k
  | _ =>
    (repeat infer_instance)
    exact k
def lstB : PyData → Bool
  | .list _ => true
  | .tuple _ => true
  | _ => false
theorem q_is_list {v : PyData} {R : Rv → Prop} (hn : nN v = true) (k : R (.d (.bool (lstB v)))) : f_is_list [.d v] R := by
  unfold f_is_list t_is_list
  dsimp only [defT, defM, zm_cons, zm_nil, za_cons, za_nil, List.length_cons, List.length_nil, Nat.reduceAdd, Nat.reduceSub, List.replicate]
  cases v with
  | dict kvs =>
    (repeat infer_instance)
    refine isiK_ok hn ?_
    (repeat infer_instance)
    exact k
  | _ =>
    (repeat infer_instance)
    exact k
def stepB (ps : List Str) (n : Nat) : PyData → Bool
  | .tuple [e, .int i] => evB ps e && decide (0 ≤ i) && decide (i < (n : Int))
  | _ => false
theorem len2 {ds : List PyData} (h : ((ds.length : Int) != 2) = false) : ∃ a b, ds = [a, b] := by
  match ds, h with
  | [a, b], _ => exact ⟨a, b, rfl⟩
  | [], h => simp at h
  | [_], h => simp at h
  | _ :: _ :: _ :: _, h => simp at h; omega
theorem q_is_step {v : PyData} {ps : List Str} {n : Nat} {R : Rv → Prop} (hp : plD v = true) (k : R (.d (.bool (stepB ps n v)))) : f_is_step [.d v, .d (strsD ps), .d (.int (n : Int))] R := by
  unfold f_is_step t_is_step
  dsimp only [defT, defM, zm_cons, zm_nil, za_cons, za_nil, List.length_cons, List.length_nil, Nat.reduceAdd, Nat.reduceSub, List.replicate]
  cases v with
  | tuple ds =>
    have pl := pl_tup hp
    (repeat infer_instance)
    refine orK_b (fun h => ?_) (fun h => ?_)
    · (repeat infer_instance)
      have e : stepB ps n (.tuple ds) = false := by
        unfold stepB
        split
        · rename_i q
          cases q
          simp at h
        · rfl
      rw [e] at k
      exact k
    · obtain ⟨a, b, rfl⟩ := len2 (by simpa using h)
      (repeat infer_instance)
      refine q_is_event (pl a (by simp)) ?_
      (repeat infer_instance)
      refine ifS_b (fun h1 => ?_) (fun h1 => ?_)
      · (repeat infer_instance)
        have h1 : evB ps a = false := by simpa using h1
        have e : stepB ps n (.tuple [a, b]) = false := by
          cases b <;> simp [stepB, h1]
        rw [e] at k
        exact k
      · have h1 : evB ps a = true := by simpa using h1
        (repeat infer_instance)
        refine q_is_integer (pl_nN (pl b (by simp))) ?_
        (repeat infer_instance)
        cases b with
        | int i =>
          simp only [intB]
          (repeat infer_instance)
          simp only [stepB, h1, Bool.true_and] at k
          refine chV_b (fun h2 => ?_) (fun h2 => ?_)
          · rw [h2] at k
            (repeat infer_instance)
            exact k
          · rw [h2] at k
            (repeat infer_instance)
            exact k
        | _ =>
          simp only [intB]
          (repeat infer_instance)
          exact k
  | dict kvs =>
    (repeat infer_instance)
    refine isiK_ok (pl_nN hp) ?_
    (repeat infer_instance)
    exact k
  | _ =>
    (repeat infer_instance)
    exact k
def rowB (ps : List Str) (n : Nat) : PyData → Bool
  | .tuple [.bool _, .tuple ms] => ms.all (stepB ps n) && ascB (ms.map fun m => match m with | .tuple (e :: _) => e | d => d)
  | _ => false
theorem evB_ok {ps : List Str} {e : PyData} (h : evB ps e = true) : ∃ w p, e = evD (w, p) ∧ (w = "fail" ∨ w = "mend") ∧ p ∈ ps := by
  unfold evB at h
  split at h
  · rename_i a b
    rw [Bool.and_eq_true] at h
    cases a with
    | str w =>
      cases b with
      | str p => exact ⟨w, p, rfl, by simpa [inB] using h.1, by simpa [inB] using h.2⟩
      | _ => simp [inB] at h
    | _ => simp [inB] at h
  · cases h
theorem stepB_ok {ps : List Str} {n : Nat} {d : PyData} (h : stepB ps n d = true) : ∃ e i, d = .tuple [e, .int i] ∧ evB ps e = true ∧ 0 ≤ i ∧ i < n := by
  unfold stepB at h
  split at h
  · rename_i e i
    simp only [Bool.and_eq_true, decide_eq_true_eq] at h
    exact ⟨e, i, rfl, h.1.1, h.1.2, h.2⟩
  · cases h
theorem cmp_ev (a b : Ev) : CmpS (evD a) (evD b) := ⟨⟨by simp [evD, PySem.W.alike, PySem.W.alikeAll], by simp [evD], by simp [evD, PyData.depth, PyData.depthAll]⟩, by simp [evD, plD, plDs], by simp [evD, plD, plDs]⟩
theorem q_is_row {v : PyData} {ps : List Str} {n m : Nat} {R : Rv → Prop} (hp : plD v = true) (hf : fitD m v = true) (k : R (.d (.bool (rowB ps n v)))) : f_is_row [.d v, .d (strsD ps), .d (.int (n : Int))] R := by
  unfold f_is_row t_is_row
  dsimp only [defT, defM, zm_cons, zm_nil, za_cons, za_nil, List.length_cons, List.length_nil, Nat.reduceAdd, Nat.reduceSub, List.replicate]
  cases v with
  | tuple ds =>
    have pl := pl_tup hp
    obtain ⟨_, m1, rfl, hfs⟩ := fit_tup hf
    (repeat infer_instance)
    refine orK_b (fun h => ?_) (fun h => ?_)
    · (repeat infer_instance)
      have e : rowB ps n (.tuple ds) = false := by
        unfold rowB
        split
        · rename_i q
          cases q
          simp at h
        · rfl
      rw [e] at k
      exact k
    · obtain ⟨a, b, rfl⟩ := len2 (by simpa using h)
      (repeat infer_instance)
      refine isiK_ok (pl_nN (pl a (by simp))) ?_
      (repeat infer_instance)
      refine ifS_b (fun h1 => ?_) (fun h1 => ?_)
      · (repeat infer_instance)
        have e : rowB ps n (.tuple [a, b]) = false := by
          cases a <;> first | rfl | simp at h1
        rw [e] at k
        exact k
      · obtain ⟨c, rfl⟩ : ∃ c, a = .bool c := by cases a <;> first | exact ⟨_, rfl⟩ | simp at h1
        (repeat infer_instance)
        cases b with
        | tuple ms =>
          have plm := pl_tup (pl (.tuple ms) (by simp))
          obtain ⟨hml, _⟩ := fit_tup (hfs (.tuple ms) (by simp))
          (repeat infer_instance)
          refine comp_mapD (fun d => .bool (stepB ps n d)) (by omega) (fun d hd k1 q1 => ?_) ?_
          · (repeat infer_instance)
            refine q_is_step (plm d hd) ?_
            (repeat infer_instance)
            exact q1 _ rfl
          · (repeat infer_instance)
            refine zo_all ?_
            (repeat infer_instance)
            have k : R (.d (.bool (ms.all (stepB ps n) && ascB (ms.map fun m => match m with | .tuple (e :: _) => e | d => d)))) := k
            refine ifS_b (fun h2 => ?_) (fun h2 => ?_)
            · (repeat infer_instance)
              have h2 : ms.all (stepB ps n) = false := by simpa using h2
              rw [h2] at k
              exact k
            · have h2 : ms.all (stepB ps n) = true := by simpa using h2
              rw [h2] at k
              have hs : ∀ d ∈ ms, stepB ps n d = true := fun d hd => List.all_eq_true.mp h2 d hd
              (repeat infer_instance)
              refine comp_mapD (fun m => match m with | .tuple (e :: _) => e | d => d) (by omega) (fun d hd k1 q1 => ?_) ?_
              · obtain ⟨e, i, rfl, _⟩ := stepB_ok (hs d hd)
                (repeat infer_instance)
                exact q1 _ rfl
              · (repeat infer_instance)
                refine q_are_ascending rfl (by simpa using hml) (fun i a b ha hb => ?_) ?_
                · rw [List.getElem?_map] at ha hb
                  cases e1 : ms[i]? with
                  | none => rw [e1] at ha; cases ha
                  | some x =>
                    cases e2 : ms[i + 1]? with
                    | none => rw [e2] at hb; cases hb
                    | some y =>
                      rw [e1] at ha
                      rw [e2] at hb
                      obtain ⟨e, i1, rfl, he, _⟩ := stepB_ok (hs x (List.mem_of_getElem? e1))
                      obtain ⟨e', i2, rfl, he', _⟩ := stepB_ok (hs y (List.mem_of_getElem? e2))
                      obtain ⟨w, p, rfl, _⟩ := evB_ok he
                      obtain ⟨w', p', rfl, _⟩ := evB_ok he'
                      cases ha
                      cases hb
                      exact cmp_ev _ _
                · (repeat infer_instance)
                  exact k
        | dict kvs =>
          (repeat infer_instance)
          refine isiK_ok (pl_nN (pl (.dict kvs) (by simp))) ?_
          (repeat infer_instance)
          exact k
        | _ =>
          (repeat infer_instance)
          exact k
  | dict kvs =>
    (repeat infer_instance)
    refine isiK_ok (pl_nN hp) ?_
    (repeat infer_instance)
    exact k
  | _ =>
    (repeat infer_instance)
    exact k
def rowsB (ps : List Str) : PyData → Bool
  | .tuple rs => !rs.isEmpty && rs.all (rowB ps rs.length)
  | _ => false
theorem q_are_rows {v : PyData} {ps : List Str} {m : Nat} {R : Rv → Prop} (hp : plD v = true) (hf : fitD m v = true) (k : R (.d (.bool (rowsB ps v)))) : f_are_rows [.d v, .d (strsD ps)] R := by
  unfold f_are_rows t_are_rows
  dsimp only [defT, defM, zm_cons, zm_nil, za_cons, za_nil, List.length_cons, List.length_nil, Nat.reduceAdd, Nat.reduceSub, List.replicate]
  cases v with
  | tuple rs =>
    have pl := pl_tup hp
    obtain ⟨hl, m1, rfl, hfs⟩ := fit_tup hf
    (repeat infer_instance)
    have k : R (.d (.bool (!rs.isEmpty && rs.all (rowB ps rs.length)))) := k
    refine ifS_b (fun h => ?_) (fun h => ?_)
    · (repeat infer_instance)
      have h : (!rs.isEmpty) = false := by simpa using h
      rw [h] at k
      exact k
    · have h : (!rs.isEmpty) = true := by simpa using h
      rw [h] at k
      (repeat infer_instance)
      refine comp_mapD (fun d => .bool (rowB ps rs.length d)) (by omega) (fun d hd k1 q1 => ?_) ?_
      · (repeat infer_instance)
        refine q_is_row (pl d hd) (hfs d hd) ?_
        (repeat infer_instance)
        exact q1 _ rfl
      · (repeat infer_instance)
        refine zo_all ?_
        (repeat infer_instance)
        exact k
  | dict kvs =>
    (repeat infer_instance)
    refine isiK_ok (pl_nN hp) ?_
    (repeat infer_instance)
    exact k
  | _ =>
    (repeat infer_instance)
    exact k
def namesB : PyData → Bool
  | .tuple ds => decide (1 ≤ ds.length) && decide (ds.length ≤ 8) && ds.all nmQ && ascB ds
  | _ => false
theorem nmQ_str {d : PyData} (h : nmQ d = true) : ∃ z, d = .str z ∧ NmOk z := by
  cases d with
  | str z => exact ⟨z, rfl, nmQ_iff.mp h⟩
  | _ => cases h
theorem cmp_str (a b : Str) : CmpS (.str a) (.str b) := ⟨⟨by simp [PySem.W.alike], by simp, by simp [PyData.depth]⟩, rfl, rfl⟩
theorem q_are_names {v : PyData} {m : Nat} {R : Rv → Prop} (hp : plD v = true) (hf : fitD m v = true) (k : R (.d (.bool (namesB v)))) : f_are_names [.d v] R := by
  unfold f_are_names t_are_names
  dsimp only [defT, defM, zm_cons, zm_nil, za_cons, za_nil, List.length_cons, List.length_nil, Nat.reduceAdd, Nat.reduceSub, List.replicate]
  cases v with
  | tuple ds =>
    have pl := pl_tup hp
    obtain ⟨hl, m1, rfl, hfs⟩ := fit_tup hf
    (repeat infer_instance)
    have k : R (.d (.bool (decide (1 ≤ ds.length) && decide (ds.length ≤ 8) && ds.all nmQ && ascB ds))) := k
    have no : (decide (1 ≤ ds.length) && decide (ds.length ≤ 8)) = false → R (.d (.bool false)) := fun q => by
      rw [q] at k
      exact k
    refine chB_b (fun h => ?_) (fun h => ?_)
    · (repeat infer_instance)
      refine ifS_b (fun h2 => ?_) (fun h2 => ?_)
      · (repeat infer_instance)
        refine no ?_
        rw [Bool.and_eq_false_iff]
        exact .inr (decide_eq_false (by simp at h2; omega))
      · have hy : (decide (1 ≤ ds.length) && decide (ds.length ≤ 8)) = true := by
          rw [Bool.and_eq_true]
          exact ⟨decide_eq_true (by have := of_decide_eq_true h; omega), decide_eq_true (by simp at h2; omega)⟩
        rw [hy, Bool.true_and] at k
        (repeat infer_instance)
        refine comp_mapD (fun d => .bool (nmQ d)) (by omega) (fun d hd k1 q1 => ?_) ?_
        · (repeat infer_instance)
          refine q_is_name (pl_nN (pl d hd)) (fun z e => fit_str (n := m1) (e ▸ hfs d hd)) ?_
          (repeat infer_instance)
          exact q1 _ rfl
        · (repeat infer_instance)
          refine zo_all ?_
          (repeat infer_instance)
          refine andV_b (fun h3 => ?_) (fun h3 => ?_)
          · rw [h3, Bool.true_and] at k
            have hs : ∀ d ∈ ds, nmQ d = true := fun d hd => List.all_eq_true.mp h3 d hd
            (repeat infer_instance)
            refine q_are_ascending rfl hl (fun i a b ha hb => ?_) ?_
            · obtain ⟨x, rfl, _⟩ := nmQ_str (hs a (List.mem_of_getElem? ha))
              obtain ⟨y, rfl, _⟩ := nmQ_str (hs b (List.mem_of_getElem? hb))
              exact cmp_str _ _
            · (repeat infer_instance)
              exact k
          · rw [h3, Bool.false_and] at k
            exact k
    · (repeat infer_instance)
      refine no ?_
      rw [Bool.and_eq_false_iff]
      exact .inl (decide_eq_false (fun q => by have := of_decide_eq_false h; omega))
  | dict kvs =>
    (repeat infer_instance)
    refine isiK_ok (pl_nN hp) ?_
    (repeat infer_instance)
    exact k
  | _ =>
    (repeat infer_instance)
    exact k
end Kf

set_option Elab.async false
set_option linter.all false
set_option maxRecDepth 100000
set_option maxHeartbeats 2000000
namespace Kf
open PySem PySem.Spec PyProof.Rows L2 LamX NdefX
local macro_rules
  | `(tactic| infer_instance) => `(tactic| (first
  | simp only [z_seq, z_if, z_ifT, z_ifF, z_ret, z_retN, z_next, z_set, z_drop, z_par, z_asg, z_for, z_setIt, z_sitA, z_sitB, z_sitH, z_var, z_varO, z_varD, z_varM, z_varB, z_mv, z_mvO, z_mvD, z_mvM, z_mvB, z_c, z_hold, z_op, z_cons, z_nil, z_toDd, z_toDo, z_stbd, z_stbo, z_stbm, z_stbb, z_call, z_toDs, z_dsK, z_dsnil, z_dsd, z_tup, z_lst, z_tru, z_truO, z_truOl, z_truOk, z_truOd, z_tb, z_tbK, z_and, z_andT, z_andF, z_or, z_orT, z_orF, z_not, z_andV, z_andVT, z_andVF, z_orV, z_orVT, z_orVF, z_notV, z_notVb, z_ifx, z_ifxT, z_ifxF, z_chain, z_chBT, z_chBF, z_chC, z_chainV, z_chVT, z_chVF, z_isi, z_cal, z_calB, z_bnil, z_bcons, z_bown, z_resn, z_resl, z_resr, z_look, z_lookO, z_lookD, z_callO, z_opO2, z_opO1, z_ixO, z_partN, z_part, z_partK, z_sl, z_slL, z_slT, z_rev, z_revK, z_comp, z_sq, z_sqK, z_itl, z_itt, z_range, z_range2, z_enum, z_signs, z_signK, z_name, z_tupG, z_consG, z_nilG, z_yes, z_ownM, z_ownG, z_ownH, z_pairsN, z_pairsC, z_dict, z_dict0, z_hnil, z_hcons, z_hhole, z_hlast, z_rep, z_calW, z_calT, z_holdW, z_holdW0, z_varA, z_mvA, z_stbA, z_isN, z_isnN, z_isnB, z_isnI, z_isnS, z_isnL, z_isnT, z_isnD, z_isnO, z_isnOb, z_isnA, z_join, z_holdP, z_holdB, z_holdX, z_calm, z_make, z_metX, z_calX, z_xof, z_told, z_isX, z_xf, z_raise, z_raiseN, z_att, z_iSeq, z_iOf, z_iFld, isStrD, isTupD, isLstD, isBoolD, isIntD, zm_cons, zm_nil, za_cons, za_nil, zs_succ, zs_zero, zg_succ, zg_zero, zo_some, zo_none, zn_t, zn_f, zw_nil, zw_cons, zk_nil, zk_cons, zk_d, zk_n, zk_o, zq_str, decide_true, decide_false, Int.reduceBEq, Int.reduceBNe, Nat.reduceBEq, Int.reduceAdd, Int.reduceSub, Int.reduceNeg, Nat.reduceAdd, Nat.reduceSub]
  | ((with_reducible refine setK_ok ?_ ?_); (· exact rfl))
  | ((with_reducible refine calK_ok ?_ ?_); (· exact rfl))
  | with_reducible refine holdA_b ?_
  | with_reducible refine holdA_i ?_
  | with_reducible refine truK_b ?_
  | ((with_reducible refine isiK_ok ?_ ?_); (· exact rfl))
  | ((with_reducible refine trdK_ok ?_ ?_); (· exact rfl))
  | ((with_reducible refine calBK_ok ?_ ?_); (· exact rfl))
  | ((with_reducible refine tupK_ok ?_ ?_); (· exact rfl))
  | ((with_reducible refine lstK_ok ?_ ?_); (· exact rfl))
  | ((with_reducible refine parK_ok ?_ ?_ ?_); (· exact rfl); (· exact rfl))
  | ((with_reducible refine tupG_ok ?_ ?_); (· exact rfl))
  | ((with_reducible refine ownK_ok ?_ ?_); (· exact rfl))
  | with_reducible refine holdA_s ?_
  | with_reducible refine holdA_n ?_
  | with_reducible refine truK_l ?_
  | with_reducible refine truK_t ?_
  | with_reducible refine truK_i ?_
  | with_reducible refine truK_n ?_
  | ((with_reducible refine dictK_ok ?_ ?_ ?_); (· exact rfl); (· exact rfl))
  | ((with_reducible refine calTK_ok ?_ ?_ ?_ ?_); (· exact rfl); (· exact rfl); (· exact rfl))
  | ((with_reducible refine calWK_ok ?_ ?_ ?_ ?_ ?_); (· exact rfl); (· exact rfl); (· exact rfl); (· exact rfl))
  | ((with_reducible refine makeK_ok ?_ ?_); (· exact rfl))
  | ((with_reducible refine calXK_ok ?_ ?_); (· exact rfl))
  | ((with_reducible refine metA_ok ?_ ?_); (· exact rfl))
  | ((with_reducible refine metK_ok ?_ ?_); (· with_unfolding_all rfl))
  | ((with_reducible apply attK_ok); (· with_unfolding_all rfl))
  | ((with_reducible refine fldK_ok ?_ ?_ ?_); (· with_unfolding_all rfl); (· exact rfl))
  | ((with_reducible refine raiseNK_ok ?_ ?_); (· exact rfl))
  | with_reducible refine holdT_ok ?_
  | with_reducible refine zo_int ?_
  | with_reducible refine zo_eqI ?_
  | with_reducible refine zo_neI ?_
  | with_reducible refine zo_add ?_
  | with_reducible refine zo_lenL ?_
  | with_reducible refine zo_lenT ?_
  | with_reducible refine zo_lstL ?_
  | with_reducible refine zo_lstT ?_
  | with_reducible refine zo_tupL ?_
  | with_reducible refine zo_tupT ?_
  | with_reducible refine zo_min2 ?_
  | with_reducible refine zo_max2 ?_
  | with_reducible refine zo_eqS ?_
  | with_reducible refine zo_neS ?_
  | ((with_reducible apply zo_ixL); (· exact rfl))
  | ((with_reducible apply zo_ixT); (· exact rfl))))
/-! ## pure: a machine is made, is played -/
section
variable {NE BM M : Addr}
def mchF (P R : PyData) : Flds := [("_parts", P), ("_rows", R)]
theorem q_machine {P Rw : PyData} {ps : List Str} {m n : Nat} {R : Flds → Prop} {Rx : Addr → Flds → Prop} (e : P = strsD ps) (hp : plD P = true) (hf : fitD m P = true) (hp2 : plD Rw = true) (hf2 : fitD n Rw = true) (h1 : namesB P = true) (h2 : rowsB ps Rw = true) (k : R (mchF P Rw)) : f_Machine___init__ M BM [.d P, .d Rw] R Rx := by
  subst e
  unfold f_Machine___init__ defI t_Machine___init__
  intro x
  dsimp only [defT, defM, zm_cons, zm_nil, za_cons, za_nil, List.length_cons, List.length_nil, Nat.reduceAdd, Nat.reduceSub, List.replicate]
  (repeat infer_instance)
  refine q_are_names hp hf ?_
  (repeat infer_instance)
  rw [h1]
  (repeat infer_instance)
  refine q_are_rows hp2 hf2 ?_
  (repeat infer_instance)
  rw [h2]
  (repeat infer_instance)
  exact k
/-- a row of a machine -/
structure Rw where
  st : Bool
  mv : List (Ev × Nat)
def mvD (m : Ev × Nat) : PyData := .tuple [evD m.1, .int (m.2 : Int)]
def rwD (r : Rw) : PyData := .tuple [.bool r.st, .tuple (r.mv.map mvD)]
def rwsD (rs : List Rw) : PyData := .tuple (rs.map rwD)
/-- where a value leads from a row -/
def goalsR (r : Rw) (d : PyData) : List Nat := (r.mv.filter fun m => eqP (evD m.1) d).map (·.2)
/-- a list of values, played from a row: which is the first that is not possible, or what is told -/
def playR (rows : List Rw) : Rw → Nat → List PyData → List Bool → Nat ⊕ List Bool
  | _, _, [], acc => .inr acc
  | r, at_, d :: ds, acc => match goalsR r d with
    | [] => .inl at_
    | j :: _ => match rows[j]? with
      | some r' => playR rows r' (at_ + 1) ds (acc ++ [r'.st])
      | none => .inl at_
theorem playR_len {rows : List Rw} : ∀ {ds : List PyData} {r : Rw} {i : Nat} {acc : List Bool}, match playR rows r i ds acc with | .inl j => i ≤ j ∧ j < i + ds.length | .inr bs => bs.length = acc.length + ds.length
  | [], r, i, acc => by simp [playR]
  | d :: ds, r, i, acc => by
    unfold playR
    cases e : goalsR r d with
    | nil => simp
    | cons j t =>
      cases e2 : rows[j]? with
      | none => simp [e2]
      | some r' =>
        have ih := playR_len (rows := rows) (ds := ds) (r := r') (i := i + 1) (acc := acc ++ [r'.st])
        simp only [e2]
        cases e3 : playR rows r' (i + 1) ds (acc ++ [r'.st]) with
        | inl j =>
          rw [e3] at ih
          simp at ih ⊢
          omega
        | inr bs =>
          rw [e3] at ih
          simp at ih ⊢
          omega
structure RowsIn (rows : List Rw) : Prop where
  len : rows.length ≤ 1000
  mv : ∀ r ∈ rows, r.mv.length ≤ 1000 ∧ ∀ m ∈ r.mv, m.2 < rows.length
def boolsD (bs : List Bool) : PyData := .list (bs.map .bool)
theorem enum_get : ∀ (l : List PyData) (j i : Nat), (enumD j l)[i]? = l[i]?.map fun d => .tuple [.int ((j + i : Nat) : Int), d]
  | [], j, i => by simp [enumD]
  | d :: r, j, 0 => by simp [enumD]
  | d :: r, j, i + 1 => by
    rw [enumD, List.getElem?_cons_succ, List.getElem?_cons_succ, enum_get r (j + 1) i, show j + 1 + i = j + (i + 1) by omega]
theorem q_play {v : PyData} {ds : List PyData} {rows : List Rw} {r0 : Rw} {P : PyData} {R : Rv → Prop} {Rx : Addr → Flds → Prop} (hv : itemsD v = some ds) (hn : nN v = true) (hl : ds.length ≤ 1000) (hr : RowsIn rows) (h0 : rows[0]? = some r0) (hd : ∀ d ∈ ds, plD d = true) (k : match playR rows r0 0 ds [] with | .inl i => Rx NE [("index", .int (i : Int))] | .inr bs => R (.o (boolsD bs))) :
    f_Machine_play NE M [.ob M (mchF P (rwsD rows)), .d v] R Rx := by
  unfold f_Machine_play defTX t_Machine_play
  dsimp only [defT, defM, zm_cons, zm_nil, za_cons, za_nil, List.length_cons, List.length_nil, Nat.reduceAdd, Nat.reduceSub, List.replicate]
  have lb : lstB v = true := by cases v <;> simp [itemsD] at hv <;> rfl
  (repeat infer_instance)
  refine q_is_list hn ?_
  (repeat infer_instance)
  rw [lb]
  (repeat infer_instance)
  refine zo_ixTn (m := 0) (x := rwD r0) (by rw [List.getElem?_map, h0]; rfl) ?_
  (repeat infer_instance)
  refine enumK_ok hv ?_
  generalize hX : playR rows r0 0 ds [] = X at k ⊢
  refine for_data (fun i E => ∃ r acc, ∃ a b c : Option Rv, r ∈ rows ∧ acc.length = i ∧ playR rows r i (ds.drop i) acc = X ∧ E = [some (.ob M (mchF P (rwsD rows))), some (.d v), some (.d (rwD r)), some (.o (boolsD acc)), a, b, c, none, none]) ⟨r0, [], _, _, _, List.mem_of_getElem? h0, rfl, hX, rfl⟩ (fun i x hx E hE N hN => ?_) (fun E hE => ?_)
  · obtain ⟨r, acc, a, b, c, hmr, hacc, hp, rfl⟩ := hE
    rw [enum_get] at hx
    cases hd0 : ds[i]? with
    | none => rw [hd0] at hx; cases hx
    | some d =>
    rw [hd0] at hx
    obtain rfl : PyData.tuple [.int ((0 + i : Nat) : Int), d] = x := by simpa using hx
    have hi : i < ds.length := (List.getElem?_eq_some_iff.mp hd0).1
    have hdrop : ds.drop i = d :: ds.drop (i + 1) := by
      rw [List.drop_eq_getElem_cons hi]
      rw [List.getElem?_eq_getElem hi] at hd0
      rw [Option.some.inj hd0]
    have hpl := hd d (List.mem_of_getElem? hd0)
    rw [Nat.zero_add]
    simp only [rwD]
    (repeat infer_instance)
    refine comp_filter mvD (fun m => eqP (evD m.1) d) (fun m => .int (m.2 : Int)) (by have := (hr.mv r hmr).1; omega) (fun m hm k1 k0 q1 q0 => ?_) ?_
    · simp only [mvD]
      (repeat infer_instance)
      refine zo_eqD ⟨by simp [evD, dpD, dpDs], by simp [evD, plD, plDs], hpl⟩ ?_
      (repeat infer_instance)
      refine itK_b (fun h => ?_) (fun h => ?_)
      · (repeat infer_instance)
        exact q1 h _ rfl
      · exact q0 h _ rfl
    · (repeat infer_instance)
      have hg : (r.mv.filter fun m => eqP (evD m.1) d).map (fun m => PyData.int (m.2 : Int)) = (goalsR r d).map fun j => .int (j : Int) := by
        unfold goalsR
        rw [List.map_map]
        rfl
      rw [hg]
      have hpr : playR rows r i (d :: ds.drop (i + 1)) acc = X := by rw [← hdrop]; exact hp
      unfold playR at hpr
      cases eg : goalsR r d with
      | nil =>
        rw [eg] at hpr
        rw [← hpr] at k
        (repeat infer_instance)
        refine raiseK_ok (by omega) (by omega) ?_
        exact k
      | cons j t =>
        rw [eg] at hpr
        have hj : j < rows.length := by
          have : j ∈ goalsR r d := by rw [eg]; exact List.mem_cons_self ..
          obtain ⟨m, hm, rfl⟩ := List.mem_map.mp this
          exact (hr.mv r hmr).2 m (List.mem_filter.mp hm).1
        obtain ⟨r', hr'⟩ : ∃ r', rows[j]? = some r' := ⟨_, List.getElem?_eq_getElem hj⟩
        simp only [hr'] at hpr
        rw [List.map_cons]
        simp only [List.isEmpty_cons]
        (repeat infer_instance)
        refine zo_ixLn (m := 0) rfl ?_
        (repeat infer_instance)
        refine zo_ixTn (m := j) (x := rwD r') (by rw [List.getElem?_map, hr']; rfl) ?_
        (repeat infer_instance)
        simp only [boolsD, rwD]
        (repeat infer_instance)
        refine zo_app (by simp; omega) ?_
        (repeat infer_instance)
        exact hN _ ⟨r', acc ++ [r'.st], _, _, _, List.mem_of_getElem? hr', by simp [hacc], hpr, by unfold boolsD; rw [List.map_append]; rfl⟩
  · obtain ⟨r, acc, a, b, c, hmr, hacc, hp, rfl⟩ := hE
    rw [enumD_len, List.drop_length] at hp
    rw [← hp] at k
    (repeat infer_instance)
    exact k
end
end Kf

set_option Elab.async false
set_option linter.all false
set_option maxRecDepth 100000
set_option maxHeartbeats 2000000
namespace Kf
open PySem PySem.Spec PyProof.Rows L2 LamX NdefX
section
variable {K : KW} {mg : Str → Option Value} {base : Heap}
def t__law_told (K : KW) (a_NoEvent : Addr) : TSD := (sSeq (sIf (dTb (dIsNo false (dVar 2)))
 (sRet (dMv 1))
 sNext)
 (sRet (dIf (dTru (dIsX K (isOkX K a_NoEvent) (dVar 2))) (dXf K [a_NoEvent] "index" (dVar 2)) (dC (.str "odd")))))
theorem rest__law_told {a_NoEvent : Addr} {Tb : List NTab} (T : Nm mg) (G_NoEvent : mg "NoEvent" = some (.ref a_NoEvent)) (X_index : ∀ C ∈ [a_NoEvent], XfC K.K C ∧ PySem.W.findIn K.K (.ref C) "index" = some none) (X : Cx) (hX : X.kw = K) (hmg : X.mg = mg) (g : Addr) (cdg : Value) : ∀ (s : Shared) (H : Hp) (B : Bas), B.K = X.kw → B.T = Tb → (∀ p ∈ B.gv, p.1 = 1) → PSs (cxOf C8.CX0 X.prog X.w X.K X.mg X.base ["work", "found", "error", "caught"] "_law_told" (defScope s__law_told) g cdg X.A X.stack s H C8.E0).nox ((defBody s__law_told).drop 2) (liftS B (t__law_told K a_NoEvent)) := by
  subst hX hmg
  intro s H B hK hT hG
  obtain ⟨BT, BK, B1, B2, B3, B4, B5⟩ := B
  cases hK
  cases hT
  exact (es_cons (es_if (et_isN (ev_name (pv 2)))
 (es_one (es_ret (ev_mv (pv 1))))
 es_nil)
 (es_one (es_ret (ev_if (et_tru (ev_isX rfl T.n_isinstance (by rfl) (pe_glob (v := .ref a_NoEvent) (by rfl) G_NoEvent rfl) (fun _ _ h => h) (ev_name (pv 2))) rfl) (ev_xf rfl X_index (ev_name (pv 2))) ev_str))))
end
end Kf

set_option Elab.async false
set_option linter.all false
set_option maxRecDepth 100000
set_option maxHeartbeats 2000000
namespace Kf
open PySem PySem.Spec PyProof.Rows L2 LamX NdefX
local macro_rules
  | `(tactic| infer_instance) => `(tactic| (first
  | simp only [z_seq, z_if, z_ifT, z_ifF, z_ret, z_retN, z_next, z_set, z_drop, z_par, z_asg, z_for, z_setIt, z_sitA, z_sitB, z_sitH, z_var, z_varO, z_varD, z_varM, z_varB, z_mv, z_mvO, z_mvD, z_mvM, z_mvB, z_c, z_hold, z_op, z_cons, z_nil, z_toDd, z_toDo, z_stbd, z_stbo, z_stbm, z_stbb, z_call, z_toDs, z_dsK, z_dsnil, z_dsd, z_tup, z_lst, z_tru, z_truO, z_truOl, z_truOk, z_truOd, z_tb, z_tbK, z_and, z_andT, z_andF, z_or, z_orT, z_orF, z_not, z_andV, z_andVT, z_andVF, z_orV, z_orVT, z_orVF, z_notV, z_notVb, z_ifx, z_ifxT, z_ifxF, z_chain, z_chBT, z_chBF, z_chC, z_chainV, z_chVT, z_chVF, z_isi, z_cal, z_calB, z_bnil, z_bcons, z_bown, z_resn, z_resl, z_resr, z_look, z_lookO, z_lookD, z_callO, z_opO2, z_opO1, z_ixO, z_partN, z_part, z_partK, z_sl, z_slL, z_slT, z_rev, z_revK, z_comp, z_sq, z_sqK, z_itl, z_itt, z_range, z_range2, z_enum, z_signs, z_signK, z_name, z_tupG, z_consG, z_nilG, z_yes, z_ownM, z_ownG, z_ownH, z_pairsN, z_pairsC, z_dict, z_dict0, z_hnil, z_hcons, z_hhole, z_hlast, z_rep, z_calW, z_calT, z_holdW, z_holdW0, z_varA, z_mvA, z_stbA, z_isN, z_isnN, z_isnB, z_isnI, z_isnS, z_isnL, z_isnT, z_isnD, z_isnO, z_isnOb, z_isnA, z_join, z_holdP, z_holdB, z_holdX, z_calm, z_make, z_metX, z_calX, z_xof, z_told, z_isX, z_xf, z_raise, z_raiseN, z_att, z_iSeq, z_iOf, z_iFld, isStrD, isTupD, isLstD, isBoolD, isIntD, zm_cons, zm_nil, za_cons, za_nil, zs_succ, zs_zero, zg_succ, zg_zero, zo_some, zo_none, zn_t, zn_f, zw_nil, zw_cons, zk_nil, zk_cons, zk_d, zk_n, zk_o, zq_str, decide_true, decide_false, Int.reduceBEq, Int.reduceBNe, Nat.reduceBEq, Int.reduceAdd, Int.reduceSub, Int.reduceNeg, Nat.reduceAdd, Nat.reduceSub]
  | ((with_reducible refine setK_ok ?_ ?_); (· exact rfl))
  | ((with_reducible refine calK_ok ?_ ?_); (· exact rfl))
  | with_reducible refine holdA_b ?_
  | with_reducible refine holdA_i ?_
  | with_reducible refine truK_b ?_
  | ((with_reducible refine isiK_ok ?_ ?_); (· exact rfl))
  | ((with_reducible refine trdK_ok ?_ ?_); (· exact rfl))
  | ((with_reducible refine calBK_ok ?_ ?_); (· exact rfl))
  | ((with_reducible refine tupK_ok ?_ ?_); (· exact rfl))
  | ((with_reducible refine lstK_ok ?_ ?_); (· exact rfl))
  | ((with_reducible refine parK_ok ?_ ?_ ?_); (· exact rfl); (· exact rfl))
  | ((with_reducible refine tupG_ok ?_ ?_); (· exact rfl))
  | ((with_reducible refine ownK_ok ?_ ?_); (· exact rfl))
  | with_reducible refine holdA_s ?_
  | with_reducible refine holdA_n ?_
  | with_reducible refine truK_l ?_
  | with_reducible refine truK_t ?_
  | with_reducible refine truK_i ?_
  | with_reducible refine truK_n ?_
  | ((with_reducible refine dictK_ok ?_ ?_ ?_); (· exact rfl); (· exact rfl))
  | ((with_reducible refine calTK_ok ?_ ?_ ?_ ?_); (· exact rfl); (· exact rfl); (· exact rfl))
  | ((with_reducible refine calWK_ok ?_ ?_ ?_ ?_ ?_); (· exact rfl); (· exact rfl); (· exact rfl); (· exact rfl))
  | ((with_reducible refine makeK_ok ?_ ?_); (· exact rfl))
  | ((with_reducible refine calXK_ok ?_ ?_); (· exact rfl))
  | ((with_reducible refine metA_ok ?_ ?_); (· exact rfl))
  | ((with_reducible refine metK_ok ?_ ?_); (· with_unfolding_all rfl))
  | ((with_reducible apply attK_ok); (· with_unfolding_all rfl))
  | ((with_reducible refine fldK_ok ?_ ?_ ?_); (· with_unfolding_all rfl); (· exact rfl))
  | ((with_reducible refine raiseNK_ok ?_ ?_); (· exact rfl))
  | with_reducible refine holdT_ok ?_
  | with_reducible refine zo_int ?_
  | with_reducible refine zo_eqI ?_
  | with_reducible refine zo_neI ?_
  | with_reducible refine zo_add ?_
  | with_reducible refine zo_lenL ?_
  | with_reducible refine zo_lenT ?_
  | with_reducible refine zo_lstL ?_
  | with_reducible refine zo_lstT ?_
  | with_reducible refine zo_tupL ?_
  | with_reducible refine zo_tupT ?_
  | with_reducible refine zo_min2 ?_
  | with_reducible refine zo_max2 ?_
  | with_reducible refine zo_eqS ?_
  | with_reducible refine zo_neS ?_
  | ((with_reducible apply zo_ixL); (· exact rfl))
  | ((with_reducible apply zo_ixT); (· exact rfl))))
/-! ## pure: what the law says of a list of values -/
section
variable {rows : List Rw}
/-- the rows' events are of small letters -/
def RowsLow (rows : List Rw) : Prop := ∀ r ∈ rows, ∀ m ∈ r.mv, (LowS m.1.1 ∧ m.1.1.length ≤ 100) ∧ LowS m.1.2 ∧ m.1.2.length ≤ 100
theorem zo_reprO {d : PyData} {k : Rv → Prop} (h : OddV d) (hp : plD d = true) (q : k (.d (.str d.shown))) : gRepr [d] k := zo_repr ⟨h.sh, h.dp, by have := h.len; rw [sizeLine_eq]; omega, hp⟩ q
theorem dpDs_nats : ∀ l : List Nat, dpDs (l.map fun j : Nat => .int (j : Int)) ≤ 1
  | [] => by simp [dpDs]
  | s :: r => by
    have := dpDs_nats r
    simp [dpDs, dpD]
    omega
theorem q_due {v : PyData} {ds : List PyData} {r0 : Rw} {R : Rv → Prop} (hv : itemsD v = some ds) (hl : ds.length ≤ 1000) (hr : RowsIn rows) (lo : RowsLow rows) (h0 : rows[0]? = some r0) (hd : ∀ d ∈ ds, OddV d) (k : match playR rows r0 0 ds [] with | .inl i => R (.d (.int (i : Int))) | .inr bs => R (.o (boolsD bs))) :
    f__law_due [.d (rwsD rows), .d v] R := by
  unfold f__law_due t__law_due
  dsimp only [defT, defM, zm_cons, zm_nil, za_cons, za_nil, List.length_cons, List.length_nil, Nat.reduceAdd, Nat.reduceSub, List.replicate]
  (repeat infer_instance)
  refine enumK_ok hv ?_
  generalize hX : playR rows r0 0 ds [] = X at k ⊢
  refine for_data (fun i E => ∃ r acc, ∃ h : Nat, ∃ a b c : Option Rv, rows[h]? = some r ∧ acc.length = i ∧ playR rows r i (ds.drop i) acc = X ∧ E = [some (.d (rwsD rows)), some (.d v), some (.o (boolsD acc)), some (.d (.int (h : Int))), a, b, c, none, none]) ⟨r0, [], 0, _, _, _, h0, rfl, hX, rfl⟩ (fun i x hx E hE N hN => ?_) (fun E hE => ?_)
  · obtain ⟨r, acc, h, a, b, c, hmr, hacc, hp, rfl⟩ := hE
    rw [enum_get] at hx
    cases hd0 : ds[i]? with
    | none => rw [hd0] at hx; cases hx
    | some d =>
    rw [hd0] at hx
    obtain rfl : PyData.tuple [.int ((0 + i : Nat) : Int), d] = x := by simpa using hx
    have hi : i < ds.length := (List.getElem?_eq_some_iff.mp hd0).1
    have hdrop : ds.drop i = d :: ds.drop (i + 1) := by
      rw [List.drop_eq_getElem_cons hi]
      rw [List.getElem?_eq_getElem hi] at hd0
      rw [Option.some.inj hd0]
    have hodd := hd d (List.mem_of_getElem? hd0)
    have hrr := List.mem_of_getElem? hmr
    rw [Nat.zero_add]
    (repeat infer_instance)
    refine zo_ixTn (m := h) (x := rwD r) (by rw [List.getElem?_map, hmr]; rfl) ?_
    simp only [rwD]
    (repeat infer_instance)
    refine comp_filter mvD (fun m => eqP (evD m.1) d) (fun m => .int (m.2 : Int)) (by have := (hr.mv r hrr).1; omega) (fun m hm k1 k0 q1 q0 => ?_) ?_
    · have hlo := lo r hrr m hm
      have hodd2 : OddV (evD m.1) := odd_ev hlo.1.1 hlo.2.1 hlo.1.2 hlo.2.2
      simp only [mvD]
      (repeat infer_instance)
      refine zo_reprO hodd2 (by simp [evD, plD, plDs]) ?_
      (repeat infer_instance)
      refine zo_reprO hodd hodd.pl ?_
      (repeat infer_instance)
      have e : decide ((evD m.1).shown = d.shown) = eqP (evD m.1) d := by
        rw [Bool.eq_iff_iff, decide_eq_true_eq]
        exact hodd.same m.1 hlo.1.1 hlo.2.1
      rw [e]
      refine itK_b (fun h => ?_) (fun h => ?_)
      · (repeat infer_instance)
        exact q1 h _ rfl
      · exact q0 h _ rfl
    · (repeat infer_instance)
      have hg : (r.mv.filter fun m => eqP (evD m.1) d).map (fun m => PyData.int (m.2 : Int)) = (goalsR r d).map fun j => .int (j : Int) := by
        unfold goalsR
        rw [List.map_map]
        rfl
      rw [hg]
      have hpr : playR rows r i (d :: ds.drop (i + 1)) acc = X := by rw [← hdrop]; exact hp
      unfold playR at hpr
      cases eg : goalsR r d with
      | nil =>
        rw [eg] at hpr
        rw [← hpr] at k
        (repeat infer_instance)
        refine zo_eqD ⟨by simp [dpD, dpDs], rfl, rfl⟩ ?_
        simp only [List.map_nil, eqP, eqPs]
        (repeat infer_instance)
        exact k
      | cons j t =>
        rw [eg] at hpr
        have hj : j < rows.length := by
          have : j ∈ goalsR r d := by rw [eg]; exact List.mem_cons_self ..
          obtain ⟨m, hm, rfl⟩ := List.mem_map.mp this
          exact (hr.mv r hrr).2 m (List.mem_filter.mp hm).1
        obtain ⟨r', hr'⟩ : ∃ r', rows[j]? = some r' := ⟨_, List.getElem?_eq_getElem hj⟩
        simp only [hr'] at hpr
        rw [List.map_cons]
        (repeat infer_instance)
        refine zo_eqD ⟨?_, ?_, rfl⟩ ?_
        · have := dpDs_nats (j :: t)
          simp only [List.map_cons] at this
          simp only [dpD]
          omega
        · exact pl_all (ds := .int (j : Int) :: t.map fun j : Nat => .int (j : Int)) fun x hx => by
            rcases List.mem_cons.mp hx with rfl | hx
            · rfl
            · obtain ⟨y, _, rfl⟩ := List.mem_map.mp hx
              rfl
        simp only [eqP, eqPs]
        (repeat infer_instance)
        refine zo_ixLn (m := 0) rfl ?_
        (repeat infer_instance)
        refine zo_ixTn (m := j) (x := rwD r') (by rw [List.getElem?_map, hr']; rfl) ?_
        simp only [boolsD, rwD]
        (repeat infer_instance)
        refine zo_app (by simp; omega) ?_
        (repeat infer_instance)
        exact hN _ ⟨r', acc ++ [r'.st], j, _, _, _, hr', by simp [hacc], hpr, by unfold boolsD; rw [List.map_append]; rfl⟩
  · obtain ⟨r, acc, h, a, b, c, hmr, hacc, hp, rfl⟩ := hE
    rw [enumD_len, List.drop_length] at hp
    rw [← hp] at k
    (repeat infer_instance)
    exact k
end
/-! ### the catcher -/
section
variable {K : KW} {NE FE : Addr}
theorem told_o {y : PyData} {R : Rv → Prop} (q : R (.o y)) : aft 4 (t__law_told K NE) (.o y) (.d .none) R := by
  unfold aft t__law_told
  dsimp only [defT, defM, zm_cons, zm_nil, za_cons, za_nil, List.length_cons, List.length_nil, Nat.reduceAdd, Nat.reduceSub, List.replicate]
  (repeat infer_instance)
  exact ⟨rfl, q⟩
theorem told_x {i : Int} {R : Rv → Prop} (hN : isOkX K NE NE true) (q : R (.d (.int i))) : aft 4 (t__law_told K NE) (.d .none) (.a (XA K NE [("index", .int i)])) R := by
  unfold aft t__law_told
  dsimp only [defT, defM, zm_cons, zm_nil, za_cons, za_nil, List.length_cons, List.length_nil, Nat.reduceAdd, Nat.reduceSub, List.replicate]
  (repeat infer_instance)
  refine isxK_ok hN ?_
  (repeat infer_instance)
  refine xfK_ok (x := .int i) (List.mem_singleton.mpr rfl) (by with_unfolding_all rfl) ?_
  (repeat infer_instance)
  exact q
end
end Kf

set_option Elab.async false
set_option linter.all false
set_option maxRecDepth 100000
set_option maxHeartbeats 2000000
namespace Kf
open PySem PySem.Spec PyProof.Rows L2 LamX NdefX
/-! ## comprehensions whose items are not known beforehand -/
inductive RelL {α β : Type} (P : α → Option β → Prop) : List α → List β → Prop
  | nil : RelL P [] []
  | some {x : α} {y : β} {xs : List α} {ys : List β} : P x (Option.some y) → RelL P xs ys → RelL P (x :: xs) (y :: ys)
  | none {x : α} {xs : List α} {ys : List β} : P x Option.none → RelL P xs ys → RelL P (x :: xs) ys
theorem RelL.len {α β : Type} {P : α → Option β → Prop} : ∀ {xs : List α} {ys : List β}, RelL P xs ys → ys.length ≤ xs.length
  | _, _, .nil => Nat.le_refl _
  | _, _, .some _ r => by simp; exact r.len
  | _, _, .none _ r => by simp; have := r.len; omega
theorem RelL.mem {α β : Type} {P : α → Option β → Prop} : ∀ {xs : List α} {ys : List β}, RelL P xs ys → ∀ y ∈ ys, ∃ x ∈ xs, P x (Option.some y)
  | _, _, .nil => by simp
  | _, _, .some (x := x) (y := y) h r => fun z hz => by
    rcases List.mem_cons.mp hz with rfl | hz
    · exact ⟨x, List.mem_cons_self .., h⟩
    · obtain ⟨a, ha, q⟩ := r.mem z hz
      exact ⟨a, List.mem_cons_of_mem _ ha, q⟩
  | _, _, .none h r => fun z hz => by
    obtain ⟨a, ha, q⟩ := r.mem z hz
    exact ⟨a, List.mem_cons_of_mem _ ha, q⟩
section
variable {tg : TGD} {tt : TTd} {te : TV} {vs : List Nat} {R : Rv → EnvD → Prop} {E E0 : EnvD} {tb : TSD} {D : EndD}
theorem compR_rel {α : Type} (enc : α → PyData) (P : α → Option PyData → Prop) {R : List PyData → EnvD → Prop} : ∀ {xs : List α} {acc : List PyData},
    (∀ x ∈ xs, ∀ (k1 : PyData → EnvD → Prop) (k0 : EnvD → Prop), (∀ y, P x (some y) → ∀ E3, wipeE E3 vs = E0 → k1 y E3) → (P x none → ∀ E2, wipeE E2 vs = E0 → k0 E2) → tg (enc x) E0 fun E1 => tt E1 fun b E2 => itK b te k1 k0 E2) →
    acc.length + xs.length ≤ 100000 → (∀ ys, RelL P xs ys → R (acc ++ ys) E0) → compT tg tt te vs (xs.map enc) acc E0 R
  | [], acc, _, _, r => by simpa [compT] using r [] .nil
  | x :: r, acc, h, hl, q => by
    rw [List.map_cons]
    unfold compT
    refine h x (List.mem_cons_self ..) _ _ (fun y e E3 hw => ⟨by simp at hl; rw [sizeLine_eq]; omega, ?_⟩) (fun e E2 hw => ?_)
    · rw [hw]
      refine compR_rel enc P (fun x' m => h x' (List.mem_cons_of_mem _ m)) (by simp at hl ⊢; omega) fun ys hy => ?_
      have := q (y :: ys) (.some e hy)
      simpa using this
    · rw [hw]
      exact compR_rel enc P (fun x' m => h x' (List.mem_cons_of_mem _ m)) (by simp at hl ⊢; omega) fun ys hy => q ys (.none e hy)
/-- [e for target in xs if t], whatever e and t may be -/
theorem comp_rel {α : Type} (enc : α → PyData) (P : α → Option PyData → Prop) {xs : List α} (hl : xs.length ≤ 100000)
    (h : ∀ x ∈ xs, ∀ (k1 : PyData → EnvD → Prop) (k0 : EnvD → Prop), (∀ y, P x (some y) → ∀ E3, wipeE E3 vs = wipeE E vs → k1 y E3) → (P x none → ∀ E2, wipeE E2 vs = wipeE E vs → k0 E2) → tg (enc x) (wipeE E vs) fun E1 => tt E1 fun b E2 => itK b te k1 k0 E2)
    (q : ∀ ys, RelL P xs ys → R (.o (.list ys)) (backE E (wipeE E vs) vs)) : compK tg tt te vs (xs.map enc) R E := by
  unfold compK
  exact compR_rel (R := fun acc E2 => R (.o (.list acc)) (backE E E2 vs)) enc P h (by simp; omega) q
/-- .. the names may change on the way, within J -/
theorem compR_relJ {α : Type} (enc : α → PyData) (P : α → Option PyData → Prop) (J : EnvD → Prop) {R : List PyData → EnvD → Prop} : ∀ {xs : List α} {acc : List PyData} {E0 : EnvD},
    (∀ x ∈ xs, ∀ E0, J E0 → ∀ (k1 : PyData → EnvD → Prop) (k0 : EnvD → Prop), (∀ y, P x (some y) → ∀ E3, J (wipeE E3 vs) → k1 y E3) → (P x none → ∀ E2, J (wipeE E2 vs) → k0 E2) → tg (enc x) E0 fun E1 => tt E1 fun b E2 => itK b te k1 k0 E2) →
    acc.length + xs.length ≤ 100000 → J E0 → (∀ ys E2, RelL P xs ys → J E2 → R (acc ++ ys) E2) → compT tg tt te vs (xs.map enc) acc E0 R
  | [], acc, E0, _, _, j, r => by simpa [compT] using r [] E0 .nil j
  | x :: r, acc, E0, h, hl, j, q => by
    rw [List.map_cons]
    unfold compT
    refine h x (List.mem_cons_self ..) E0 j _ _ (fun y e E3 hw => ⟨by simp at hl; rw [sizeLine_eq]; omega, ?_⟩) (fun e E2 hw => ?_)
    · refine compR_relJ enc P J (fun x' m => h x' (List.mem_cons_of_mem _ m)) (by simp at hl ⊢; omega) hw fun ys E2 hy hj => ?_
      have := q (y :: ys) E2 (.some e hy) hj
      simpa using this
    · exact compR_relJ enc P J (fun x' m => h x' (List.mem_cons_of_mem _ m)) (by simp at hl ⊢; omega) hw fun ys E2 hy hj => q ys E2 (.none e hy) hj
theorem comp_relJ {α : Type} (enc : α → PyData) (P : α → Option PyData → Prop) (J : EnvD → Prop) {xs : List α} (hl : xs.length ≤ 100000) (hj : J (wipeE E vs))
    (h : ∀ x ∈ xs, ∀ E0, J E0 → ∀ (k1 : PyData → EnvD → Prop) (k0 : EnvD → Prop), (∀ y, P x (some y) → ∀ E3, J (wipeE E3 vs) → k1 y E3) → (P x none → ∀ E2, J (wipeE E2 vs) → k0 E2) → tg (enc x) E0 fun E1 => tt E1 fun b E2 => itK b te k1 k0 E2)
    (q : ∀ ys E2, RelL P xs ys → J E2 → R (.o (.list ys)) (backE E E2 vs)) : compK tg tt te vs (xs.map enc) R E := by
  unfold compK
  exact compR_relJ (R := fun acc E2 => R (.o (.list acc)) (backE E E2 vs)) enc P J h (by simp; omega) hj fun ys E2 hy hj => q ys E2 hy hj
theorem relL_each {α β : Type} {P : α → β → Prop} {xs : List α} {ys : List β} (hy : RelL (fun x o => ∃ y, o = some y ∧ P x y) xs ys) : Paired P xs ys := by
  induction hy with
  | nil => exact .nil
  | some hp _ ih =>
    obtain ⟨y, e, hp⟩ := hp
    cases e
    exact .cons hp ih
  | none hp _ ih =>
    obtain ⟨y, e, _⟩ := hp
    cases e
/-- [e for target in xs], the names may change on the way -/
theorem comp_eachJ {α : Type} (enc : α → PyData) (P : α → PyData → Prop) (J : EnvD → Prop) {xs : List α} (hl : xs.length ≤ 100000) (hj : J (wipeE E vs))
    (h : ∀ x ∈ xs, ∀ E0, J E0 → ∀ (k1 : PyData → EnvD → Prop), (∀ y, P x y → ∀ E3, J (wipeE E3 vs) → k1 y E3) → tg (enc x) E0 fun E1 => te E1 fun rv E3 => rv.toD k1 E3)
    (q : ∀ ys E2, Paired P xs ys → J E2 → R (.o (.list ys)) (backE E E2 vs)) : compK tg dYes te vs (xs.map enc) R E :=
  comp_relJ enc (fun x o => ∃ y, o = some y ∧ P x y) J hl hj (fun x hx E0 j k1 k0 q1 q0 => h x hx E0 j k1 fun y hy => q1 y ⟨y, rfl, hy⟩) fun ys E2 hy j => q ys E2 (relL_each hy) j
/-- [e for target in xs], whatever e may be -/
theorem comp_each {α : Type} (enc : α → PyData) (P : α → PyData → Prop) {xs : List α} (hl : xs.length ≤ 100000)
    (h : ∀ x ∈ xs, ∀ (k1 : PyData → EnvD → Prop), (∀ y, P x y → ∀ E3, wipeE E3 vs = wipeE E vs → k1 y E3) → tg (enc x) (wipeE E vs) fun E1 => te E1 fun rv E3 => rv.toD k1 E3)
    (q : ∀ ys, Paired P xs ys → R (.o (.list ys)) (backE E (wipeE E vs) vs)) : compK tg dYes te vs (xs.map enc) R E := by
  refine comp_rel enc (fun x o => ∃ y, o = some y ∧ P x y) hl (fun x hx k1 k0 q1 q0 => ?_) fun ys hy => q ys ?_
  · exact h x hx k1 fun y hy => q1 y ⟨y, rfl, hy⟩
  · clear q h hl
    induction hy with
    | nil => exact .nil
    | some hp _ ih =>
      obtain ⟨y, e, hp⟩ := hp
      cases e
      exact .cons hp ih
    | none hp _ ih =>
      obtain ⟨y, e, _⟩ := hp
      cases e
end
theorem range_nat (i : Int) (n : Nat) : rangeD i n = (List.range n).map fun j : Nat => PyData.int (i + (j : Int)) := rfl
theorem paired_get {α β : Type} {P : α → β → Prop} : ∀ {xs : List α} {ys : List β}, Paired P xs ys → ∀ y ∈ ys, ∃ x ∈ xs, P x y
  | _, _, .nil => by simp
  | _, _, .cons (a := x) h r => fun z hz => by
    rcases List.mem_cons.mp hz with rfl | hz
    · exact ⟨x, List.mem_cons_self .., h⟩
    · obtain ⟨a, ha, q⟩ := paired_get r z hz
      exact ⟨a, List.mem_cons_of_mem _ ha, q⟩
/-- both ways lead on alike -/
theorem ifS_join {b : Bool} {t u : TSD} {D : EndD} {E : EnvD} (J : EnvD → Prop) (h1 : b = true → ∀ N, (∀ E', J E' → N E') → t ⟨N, D.rt, D.bk, D.ct, D.rs⟩ E) (h2 : b = false → ∀ N, (∀ E', J E' → N E') → u ⟨N, D.rt, D.bk, D.ct, D.rs⟩ E) (h3 : ∀ E', J E' → D.nx E') : ifS b t u D E := by
  cases b
  · exact h2 rfl D.nx h3
  · exact h1 rfl D.nx h3
/-! ### texts -/
theorem slice_upto (z : Str) (n : Nat) : (Txt.slice z none (some (n : Int))).cps.toList = z.cps.toList.take n := by
  obtain ⟨a, rfl⟩ : ∃ a : List Nat, z = ⟨a.toArray⟩ := ⟨z.cps.toList, by cases z; simp⟩
  have := SX.slice_to (a := a) (i := (n : Int)) (by omega)
  rw [show (⟨a.toArray⟩ : Str) = SX.S a from rfl, this]
  simp [SX.S]
end Kf

set_option Elab.async false
set_option linter.all false
set_option maxRecDepth 100000
set_option maxHeartbeats 2000000
namespace Kf
open PySem PySem.Spec PyProof.Rows L2 LamX NdefX
local macro_rules
  | `(tactic| infer_instance) => `(tactic| (first
  | simp only [z_seq, z_if, z_ifT, z_ifF, z_ret, z_retN, z_next, z_set, z_drop, z_par, z_asg, z_for, z_setIt, z_sitA, z_sitB, z_sitH, z_var, z_varO, z_varD, z_varM, z_varB, z_mv, z_mvO, z_mvD, z_mvM, z_mvB, z_c, z_hold, z_op, z_cons, z_nil, z_toDd, z_toDo, z_stbd, z_stbo, z_stbm, z_stbb, z_call, z_toDs, z_dsK, z_dsnil, z_dsd, z_tup, z_lst, z_tru, z_truO, z_truOl, z_truOk, z_truOd, z_tb, z_tbK, z_and, z_andT, z_andF, z_or, z_orT, z_orF, z_not, z_andV, z_andVT, z_andVF, z_orV, z_orVT, z_orVF, z_notV, z_notVb, z_ifx, z_ifxT, z_ifxF, z_chain, z_chBT, z_chBF, z_chC, z_chainV, z_chVT, z_chVF, z_isi, z_cal, z_calB, z_bnil, z_bcons, z_bown, z_resn, z_resl, z_resr, z_look, z_lookO, z_lookD, z_callO, z_opO2, z_opO1, z_ixO, z_partN, z_part, z_partK, z_sl, z_slL, z_slT, z_rev, z_revK, z_comp, z_sq, z_sqK, z_itl, z_itt, z_range, z_range2, z_enum, z_signs, z_signK, z_name, z_tupG, z_consG, z_nilG, z_yes, z_ownM, z_ownG, z_ownH, z_pairsN, z_pairsC, z_dict, z_dict0, z_hnil, z_hcons, z_hhole, z_hlast, z_rep, z_calW, z_calT, z_holdW, z_holdW0, z_varA, z_mvA, z_stbA, z_isN, z_isnN, z_isnB, z_isnI, z_isnS, z_isnL, z_isnT, z_isnD, z_isnO, z_isnOb, z_isnA, z_join, z_holdP, z_holdB, z_holdX, z_calm, z_make, z_metX, z_calX, z_xof, z_told, z_isX, z_xf, z_raise, z_raiseN, z_att, z_iSeq, z_iOf, z_iFld, isStrD, isTupD, isLstD, isBoolD, isIntD, zm_cons, zm_nil, za_cons, za_nil, zs_succ, zs_zero, zg_succ, zg_zero, zo_some, zo_none, zn_t, zn_f, zw_nil, zw_cons, zk_nil, zk_cons, zk_d, zk_n, zk_o, zq_str, decide_true, decide_false, Int.reduceBEq, Int.reduceBNe, Nat.reduceBEq, Int.reduceAdd, Int.reduceSub, Int.reduceNeg, Nat.reduceAdd, Nat.reduceSub]
  | ((with_reducible refine setK_ok ?_ ?_); (· exact rfl))
  | ((with_reducible refine calK_ok ?_ ?_); (· exact rfl))
  | with_reducible refine holdA_b ?_
  | with_reducible refine holdA_i ?_
  | with_reducible refine truK_b ?_
  | ((with_reducible refine isiK_ok ?_ ?_); (· exact rfl))
  | ((with_reducible refine trdK_ok ?_ ?_); (· exact rfl))
  | ((with_reducible refine calBK_ok ?_ ?_); (· exact rfl))
  | ((with_reducible refine tupK_ok ?_ ?_); (· exact rfl))
  | ((with_reducible refine lstK_ok ?_ ?_); (· exact rfl))
  | ((with_reducible refine parK_ok ?_ ?_ ?_); (· exact rfl); (· exact rfl))
  | ((with_reducible refine tupG_ok ?_ ?_); (· exact rfl))
  | ((with_reducible refine ownK_ok ?_ ?_); (· exact rfl))
  | with_reducible refine holdA_s ?_
  | with_reducible refine holdA_n ?_
  | with_reducible refine truK_l ?_
  | with_reducible refine truK_t ?_
  | with_reducible refine truK_i ?_
  | with_reducible refine truK_n ?_
  | ((with_reducible refine dictK_ok ?_ ?_ ?_); (· exact rfl); (· exact rfl))
  | ((with_reducible refine calTK_ok ?_ ?_ ?_ ?_); (· exact rfl); (· exact rfl); (· exact rfl))
  | ((with_reducible refine calWK_ok ?_ ?_ ?_ ?_ ?_); (· exact rfl); (· exact rfl); (· exact rfl); (· exact rfl))
  | ((with_reducible refine makeK_ok ?_ ?_); (· exact rfl))
  | ((with_reducible refine calXK_ok ?_ ?_); (· exact rfl))
  | ((with_reducible refine metA_ok ?_ ?_); (· exact rfl))
  | ((with_reducible refine metK_ok ?_ ?_); (· with_unfolding_all rfl))
  | ((with_reducible apply attK_ok); (· with_unfolding_all rfl))
  | ((with_reducible refine fldK_ok ?_ ?_ ?_); (· with_unfolding_all rfl); (· exact rfl))
  | ((with_reducible refine raiseNK_ok ?_ ?_); (· exact rfl))
  | with_reducible refine holdT_ok ?_
  | with_reducible refine zo_int ?_
  | with_reducible refine zo_eqI ?_
  | with_reducible refine zo_neI ?_
  | with_reducible refine zo_add ?_
  | with_reducible refine zo_lenL ?_
  | with_reducible refine zo_lenT ?_
  | with_reducible refine zo_lstL ?_
  | with_reducible refine zo_lstT ?_
  | with_reducible refine zo_tupL ?_
  | with_reducible refine zo_tupT ?_
  | with_reducible refine zo_min2 ?_
  | with_reducible refine zo_max2 ?_
  | with_reducible refine zo_eqS ?_
  | with_reducible refine zo_neS ?_
  | ((with_reducible apply zo_ixL); (· exact rfl))
  | ((with_reducible apply zo_ixT); (· exact rfl))))
/-! ## pure: draws -/
section
variable {d L C : Addr}
theorem take_of {n : Int} {R : Rv → Prop} (h0 : 0 < n) (h1 : n < 1073741824) (k : ∀ j, 0 ≤ j → j < n → R (.d (.int j))) : f_take [.m (drC d L C), .d (.int n)] R := ⟨d, L, C, n, rfl, h0, h1, k⟩
theorem take_nat {n : Int} {R : Rv → Prop} (h0 : 0 < n) (h1 : n < 1073741824) (k : ∀ j : Nat, (j : Int) < n → R (.d (.int (j : Int)))) : f_take [.m (drC d L C), .d (.int n)] R := take_of h0 h1 fun j j0 j1 => by
  obtain ⟨i, rfl⟩ : ∃ i : Nat, j = (i : Int) := ⟨j.toNat, by omega⟩
  exact k i j1
theorem pick_seq {v : PyData} {ds : List PyData} {R : Rv → Prop} (hv : itemsD v = some ds) (h0 : 0 < ds.length) (h1 : ds.length < 1000) (k : ∀ x ∈ ds, R (.d x)) : f__law_pick [.m (drC d L C), .d v] R := by
  have hv : v = .list ds ∨ v = .tuple ds := by
    cases v <;> simp [itemsD] at hv
    · exact .inl (by rw [hv])
    · exact .inr (by rw [hv])
  unfold f__law_pick t__law_pick
  dsimp only [defT, defM, zm_cons, zm_nil, za_cons, za_nil, List.length_cons, List.length_nil, Nat.reduceAdd, Nat.reduceSub, List.replicate]
  have len : ∀ {k : Rv → Prop}, k (.d (.int ds.length)) → gLen [v] k := fun {k} q => by rcases hv with rfl | rfl <;> exact q
  have ixn : ∀ {m : Nat} {x : PyData} {k : Rv → Prop}, ds[m]? = some x → k (.d x) → gIx v (.int (m : Int)) k := fun {m x k} h q => by rcases hv with rfl | rfl <;> first | exact zo_ixLn h q | exact zo_ixTn h q
  clear hv
  (repeat infer_instance)
  refine len ?_
  (repeat infer_instance)
  refine take_nat (by omega) (by omega) fun j hj => ?_
  (repeat infer_instance)
  have hj : j < ds.length := by omega
  refine ixn (x := ds[j]) (List.getElem?_eq_getElem hj) ?_
  (repeat infer_instance)
  exact k _ (List.getElem_mem hj)
theorem pick_str {z : Str} {R : Rv → Prop} (h0 : 0 < z.length) (h1 : z.length < 1000) (k : ∀ c ∈ z.cps.toList, R (.d (.str ⟨#[c]⟩))) : f__law_pick [.m (drC d L C), .d (.str z)] R := by
  unfold f__law_pick t__law_pick
  dsimp only [defT, defM, zm_cons, zm_nil, za_cons, za_nil, List.length_cons, List.length_nil, Nat.reduceAdd, Nat.reduceSub, List.replicate]
  (repeat infer_instance)
  refine zo_lenS (by omega) ?_
  (repeat infer_instance)
  refine take_nat (by omega) (by omega) fun j hj => ?_
  (repeat infer_instance)
  have hj : j < z.cps.toList.length := by rw [len_cps]; omega
  refine zo_ixS (c := z.cps.toList[j]) (by omega) (List.getElem?_eq_getElem hj) ?_
  (repeat infer_instance)
  exact k _ (List.getElem_mem hj)
end
end Kf

set_option Elab.async false
set_option linter.all false
set_option maxRecDepth 100000
set_option maxHeartbeats 2000000
namespace Kf
open PySem PySem.Spec PyProof.Rows L2 LamX NdefX
local macro_rules
  | `(tactic| infer_instance) => `(tactic| (first
  | simp only [z_seq, z_if, z_ifT, z_ifF, z_ret, z_retN, z_next, z_set, z_drop, z_par, z_asg, z_for, z_setIt, z_sitA, z_sitB, z_sitH, z_var, z_varO, z_varD, z_varM, z_varB, z_mv, z_mvO, z_mvD, z_mvM, z_mvB, z_c, z_hold, z_op, z_cons, z_nil, z_toDd, z_toDo, z_stbd, z_stbo, z_stbm, z_stbb, z_call, z_toDs, z_dsK, z_dsnil, z_dsd, z_tup, z_lst, z_tru, z_truO, z_truOl, z_truOk, z_truOd, z_tb, z_tbK, z_and, z_andT, z_andF, z_or, z_orT, z_orF, z_not, z_andV, z_andVT, z_andVF, z_orV, z_orVT, z_orVF, z_notV, z_notVb, z_ifx, z_ifxT, z_ifxF, z_chain, z_chBT, z_chBF, z_chC, z_chainV, z_chVT, z_chVF, z_isi, z_cal, z_calB, z_bnil, z_bcons, z_bown, z_resn, z_resl, z_resr, z_look, z_lookO, z_lookD, z_callO, z_opO2, z_opO1, z_ixO, z_partN, z_part, z_partK, z_sl, z_slL, z_slT, z_rev, z_revK, z_comp, z_sq, z_sqK, z_itl, z_itt, z_range, z_range2, z_enum, z_signs, z_signK, z_name, z_tupG, z_consG, z_nilG, z_yes, z_ownM, z_ownG, z_ownH, z_pairsN, z_pairsC, z_dict, z_dict0, z_hnil, z_hcons, z_hhole, z_hlast, z_rep, z_calW, z_calT, z_holdW, z_holdW0, z_varA, z_mvA, z_stbA, z_isN, z_isnN, z_isnB, z_isnI, z_isnS, z_isnL, z_isnT, z_isnD, z_isnO, z_isnOb, z_isnA, z_join, z_holdP, z_holdB, z_holdX, z_calm, z_make, z_metX, z_calX, z_xof, z_told, z_isX, z_xf, z_raise, z_raiseN, z_att, z_iSeq, z_iOf, z_iFld, isStrD, isTupD, isLstD, isBoolD, isIntD, zm_cons, zm_nil, za_cons, za_nil, zs_succ, zs_zero, zg_succ, zg_zero, zo_some, zo_none, zn_t, zn_f, zw_nil, zw_cons, zk_nil, zk_cons, zk_d, zk_n, zk_o, zq_str, decide_true, decide_false, Int.reduceBEq, Int.reduceBNe, Nat.reduceBEq, Int.reduceAdd, Int.reduceSub, Int.reduceNeg, Nat.reduceAdd, Nat.reduceSub]
  | ((with_reducible refine setK_ok ?_ ?_); (· exact rfl))
  | ((with_reducible refine calK_ok ?_ ?_); (· exact rfl))
  | with_reducible refine holdA_b ?_
  | with_reducible refine holdA_i ?_
  | with_reducible refine truK_b ?_
  | ((with_reducible refine isiK_ok ?_ ?_); (· exact rfl))
  | ((with_reducible refine trdK_ok ?_ ?_); (· exact rfl))
  | ((with_reducible refine calBK_ok ?_ ?_); (· exact rfl))
  | ((with_reducible refine tupK_ok ?_ ?_); (· exact rfl))
  | ((with_reducible refine lstK_ok ?_ ?_); (· exact rfl))
  | ((with_reducible refine parK_ok ?_ ?_ ?_); (· exact rfl); (· exact rfl))
  | ((with_reducible refine tupG_ok ?_ ?_); (· exact rfl))
  | ((with_reducible refine ownK_ok ?_ ?_); (· exact rfl))
  | with_reducible refine holdA_s ?_
  | with_reducible refine holdA_n ?_
  | with_reducible refine truK_l ?_
  | with_reducible refine truK_t ?_
  | with_reducible refine truK_i ?_
  | with_reducible refine truK_n ?_
  | ((with_reducible refine dictK_ok ?_ ?_ ?_); (· exact rfl); (· exact rfl))
  | ((with_reducible refine calTK_ok ?_ ?_ ?_ ?_); (· exact rfl); (· exact rfl); (· exact rfl))
  | ((with_reducible refine calWK_ok ?_ ?_ ?_ ?_ ?_); (· exact rfl); (· exact rfl); (· exact rfl); (· exact rfl))
  | ((with_reducible refine makeK_ok ?_ ?_); (· exact rfl))
  | ((with_reducible refine calXK_ok ?_ ?_); (· exact rfl))
  | ((with_reducible refine metA_ok ?_ ?_); (· exact rfl))
  | ((with_reducible refine metK_ok ?_ ?_); (· with_unfolding_all rfl))
  | ((with_reducible apply attK_ok); (· with_unfolding_all rfl))
  | ((with_reducible refine fldK_ok ?_ ?_ ?_); (· with_unfolding_all rfl); (· exact rfl))
  | ((with_reducible refine raiseNK_ok ?_ ?_); (· exact rfl))
  | with_reducible refine holdT_ok ?_
  | with_reducible refine zo_int ?_
  | with_reducible refine zo_eqI ?_
  | with_reducible refine zo_neI ?_
  | with_reducible refine zo_add ?_
  | with_reducible refine zo_lenL ?_
  | with_reducible refine zo_lenT ?_
  | with_reducible refine zo_lstL ?_
  | with_reducible refine zo_lstT ?_
  | with_reducible refine zo_tupL ?_
  | with_reducible refine zo_tupT ?_
  | with_reducible refine zo_min2 ?_
  | with_reducible refine zo_max2 ?_
  | with_reducible refine zo_eqS ?_
  | with_reducible refine zo_neS ?_
  | ((with_reducible apply zo_ixL); (· exact rfl))
  | ((with_reducible apply zo_ixT); (· exact rfl))))
/-! ## pure: words -/
def menuS : List Str := ["a", "b", "c", "fail", "mend", "all", "least", "spare", "before", "top", "none", "zzzzzz"]
theorem menu_ok : ∀ z ∈ menuS, NmOk z := by
  have : ∀ z ∈ menuS, nmQ (.str z) = true := by decide +kernel
  exact fun z hz => nmQ_iff.mp (this z hz)
/-- a word, its last sign another one -/
def otherS (w : Str) (c : Nat) : Str := Txt.slice w none (some 5) ++ ⟨#[c]⟩
theorem other_cps (w : Str) (c : Nat) : (otherS w c).cps.toList = w.cps.toList.take 5 ++ [c] := by
  unfold otherS
  rw [cps_app, show (5 : Int) = ((5 : Nat) : Int) from rfl, slice_upto]
theorem NmOk.len {z : Str} (h : NmOk z) : z.cps.toList.length ≤ 6 := by rw [len_cps]; exact h.hi
theorem other_ok {w : Str} (h : NmOk w) {c : Nat} (hc : 97 ≤ c ∧ c ≤ 122) : NmOk (otherS w c) := by
  have e : (otherS w c).length = (w.cps.toList.take 5).length + 1 := by
    rw [← len_cps, other_cps]
    simp
  refine ⟨by omega, by rw [e, List.length_take]; omega, fun x hx => ?_⟩
  rw [other_cps] at hx
  rcases List.mem_append.mp hx with hx | hx
  · exact h.low x (List.mem_of_mem_take hx)
  · rw [List.mem_singleton.mp hx]
    exact hc
theorem other_inj {w : Str} {a b : Nat} (e : otherS w a = otherS w b) : a = b := by
  have := congrArg (fun s : Str => s.cps.toList) e
  simp only [other_cps] at this
  have := List.append_cancel_left this
  simpa using this
def candS (w : Str) : List Str := w :: lettersS.cps.toList.map (otherS w)
theorem cand_ok {w : Str} (h : NmOk w) : ∀ z ∈ candS w, NmOk z := fun z hz => by
  rcases List.mem_cons.mp hz with rfl | hz
  · exact h
  · obtain ⟨c, hc, rfl⟩ := List.mem_map.mp hz
    exact other_ok h (mem_letters.mp hc)
theorem cand_free {w : Str} {ws : List Str} (hl : ws.length < 26) : ∃ z ∈ candS w, z ∉ ws := by
  by_cases h : ∃ z ∈ lettersS.cps.toList.map (otherS w), z ∉ ws
  · obtain ⟨z, h1, h2⟩ := h
    exact ⟨z, List.mem_cons_of_mem _ h1, h2⟩
  · exfalso
    have sub : lettersS.cps.toList.map (otherS w) ⊆ ws := fun z hz => by
      rcases Classical.em (z ∈ ws) with q | q
      · exact q
      · exact absurd ⟨z, hz, q⟩ h
    have nd : (lettersS.cps.toList.map (otherS w)).Nodup := by
      rw [letters_toList]
      have n1 : ((List.range 26).map (· + 97)).Pairwise (· ≠ ·) := List.Pairwise.map _ (fun a b (h : a ≠ b) e => h (by omega)) List.nodup_range
      exact List.Pairwise.map _ (fun a b (h : a ≠ b) e => h (other_inj e)) n1
    have := List.Nodup.length_le_of_subset nd sub
    rw [letters_toList] at this
    simp at this
    omega
theorem cps_str (z : Str) : ∃ cs, z = ⟨cs⟩ := ⟨z.cps, rfl⟩
theorem joinL_nil : ∀ ys : List (List Nat), TL.joinL [] ys = ys.flatten
  | [] => rfl
  | [p] => by simp [TL.joinL]
  | p :: q :: r => by
    have := joinL_nil (q :: r)
    simp only [TL.joinL, List.nil_append, List.flatten_cons] at this ⊢
    rw [this]
theorem join_cps (ys : List Str) : (Txt.join "" ys).cps.toList = (ys.map fun y => y.cps.toList).flatten := by
  have e : ys = (ys.map fun y => y.cps.toList).map SX.S := by
    rw [List.map_map]
    refine (List.map_id _).symm.trans (List.map_congr_left fun y _ => ?_)
    show y = ⟨y.cps.toList.toArray⟩
    cases y
    simp
  have h := SX.join_S [] (ys.map fun y => y.cps.toList)
  rw [← e] at h
  rw [show ("" : Str) = SX.S [] from rfl, h, joinL_nil]
theorem nm_join {ys : List Str} (h1 : 1 ≤ ys.length) (h2 : ys.length ≤ 6) (h : ∀ y ∈ ys, ∃ c, y = ⟨#[c]⟩ ∧ 97 ≤ c ∧ c ≤ 122) : NmOk (Txt.join "" ys) := by
  have e : ∀ ys : List Str, (∀ y ∈ ys, ∃ c, y = ⟨#[c]⟩ ∧ 97 ≤ c ∧ c ≤ 122) → (Txt.join "" ys).cps.toList.length = ys.length ∧ ∀ c ∈ (Txt.join "" ys).cps.toList, 97 ≤ c ∧ c ≤ 122 := by
    intro ys
    induction ys with
    | nil => intro _; exact ⟨rfl, by intro c hc; cases hc⟩
    | cons y r ih =>
      intro h
      obtain ⟨c, rfl, hc⟩ := h y (List.mem_cons_self ..)
      obtain ⟨i1, i2⟩ := ih fun z hz => h z (List.mem_cons_of_mem _ hz)
      have ej : (Txt.join "" (⟨#[c]⟩ :: r)).cps.toList = c :: (Txt.join "" r).cps.toList := by
        rw [join_cps, join_cps]
        rfl
      rw [ej]
      refine ⟨by simp at i1 ⊢; exact i1, fun x hx => ?_⟩
      rcases List.mem_cons.mp hx with rfl | hx
      · exact hc
      · exact i2 x hx
  obtain ⟨e1, e2⟩ := e ys h
  rw [len_cps] at e1
  exact ⟨by omega, by omega, e2⟩
section
variable {d L C : Addr}
theorem sum_one {ys : List Str} (h : ∀ y ∈ ys, y.length ≤ 1) : (ys.map (·.length)).sum ≤ ys.length := by
  induction ys with
  | nil => simp
  | cons y r ih =>
    have := h y (List.mem_cons_self ..)
    have := ih fun z hz => h z (List.mem_cons_of_mem _ hz)
    simp
    omega
theorem q_words {n : Nat} {R : Rv → Prop} (hn : n ≤ 20) (k : ∀ ws : List Str, ws.length = n → ws.Nodup → (∀ x ∈ ws, NmOk x) → R (.o (.list (ws.map .str)))) : f__law_words [.m (drC d L C), .d (.int (n : Int))] R := by
  unfold f__law_words t__law_words
  dsimp only [defT, defM, zm_cons, zm_nil, za_cons, za_nil, List.length_cons, List.length_nil, Nat.reduceAdd, Nat.reduceSub, List.replicate]
  (repeat infer_instance)
  refine rangeK_ok (by omega) ?_
  refine for_nat (fun i E => ∃ ws : List Str, ∃ m a b c : Option Rv, ws.length = i ∧ ws.Nodup ∧ (∀ x ∈ ws, NmOk x) ∧ (m = some (.o (.list (menuS.map .str))) ∨ m = some (.d (.list (menuS.map .str)))) ∧ E = [some (.m (drC d L C)), some (.d (.int (n : Int))), m, some (.o (.list (ws.map .str))), a, b, c, none, none, none]) ⟨[], _, _, _, _, rfl, .nil, by simp, .inl rfl, rfl⟩ (fun i hi E hE N hN => ?_) (fun E hE => ?_)
  · obtain ⟨ws, m, a, b, c, hl, nd, ok, hm, rfl⟩ := hE
    (repeat infer_instance)
    have hv : ∀ {R : Rv → EnvD → Prop} {E : EnvD}, (R (.d (.list (menuS.map .str))) (E.set 2 (some (.d (.list (menuS.map .str)))))) → (E.set 2 m = E) → varK (some m) 2 R E := by
      intro R E q e
      rcases hm with rfl | rfl
      · exact q
      · rw [← e] at q
        rw [List.set_set] at q
        rw [← e]
        exact q
    refine hv ?_ rfl
    (repeat infer_instance)
    refine pick_seq (ds := menuS.map .str) rfl (by simp [menuS]) (by simp [menuS]) fun x hx => ?_
    obtain ⟨w0, hw0, rfl⟩ := List.mem_map.mp hx
    have ok0 := menu_ok w0 hw0
    (repeat infer_instance)
    refine take_nat (by omega) (by omega) fun j hj => ?_
    (repeat infer_instance)
    refine ifS_join (fun E' => ∃ w, NmOk w ∧ E' = [some (.m (drC d L C)), some (.d (.int (n : Int))), some (.d (.list (menuS.map .str))), some (.o (.list (ws.map .str))), some (.d (.int (i : Int))), some (.d (.str w)), c, none, none, none]) (fun hb N2 hN2 => ?_) (fun hb N2 hN2 => ?_) (fun E' hE' => ?_)
    · (repeat infer_instance)
      refine take_nat (by omega) (by omega) fun q hq => ?_
      (repeat infer_instance)
      rw [show (1 + (q : Int)) = ((1 + q : Nat) : Int) by omega]
      refine rangeK_ok (by omega) ?_
      rw [range_nat]
      refine comp_each (fun j : Nat => .int (0 + (j : Int))) (fun _ y => ∃ c, y = PyData.str ⟨#[c]⟩ ∧ 97 ≤ c ∧ c ≤ 122) (by simp; omega) (fun x hx k1 q1 => ?_) (fun ys hy => ?_)
      · (repeat infer_instance)
        refine pick_str (by decide) (by decide) fun c hc => ?_
        (repeat infer_instance)
        have : ∀ c ∈ ("abcxyz" : Str).cps.toList, 97 ≤ c ∧ c ≤ 122 := by decide +kernel
        exact q1 _ ⟨c, rfl, this c hc⟩ _ rfl
      · (repeat infer_instance)
        have hyl : ys.length = 1 + q := by rw [← pairLen hy]; simp
        obtain ⟨zs, rfl, hz⟩ : ∃ zs : List Str, ys = zs.map .str ∧ ∀ y ∈ zs, ∃ c, y = ⟨#[c]⟩ ∧ 97 ≤ c ∧ c ≤ 122 := by
          have hall : ∀ y ∈ ys, ∃ c, y = PyData.str ⟨#[c]⟩ ∧ 97 ≤ c ∧ c ≤ 122 := fun y hm => by
            obtain ⟨_, _, h⟩ := paired_get hy y hm
            exact h
          clear hyl hy
          induction ys with
          | nil => exact ⟨[], rfl, by simp⟩
          | cons y r ih =>
            obtain ⟨zs, e, h⟩ := ih fun z hz => hall z (List.mem_cons_of_mem _ hz)
            obtain ⟨c, rfl, hc⟩ := hall y (List.mem_cons_self ..)
            refine ⟨⟨#[c]⟩ :: zs, by rw [List.map_cons, e], fun z hz => ?_⟩
            rcases List.mem_cons.mp hz with rfl | hz
            · exact ⟨c, rfl, hc⟩
            · exact h z hz
        have hzl : zs.length = 1 + q := by simpa using hyl
        refine zo_join ?_ ?_
        · have := sum_one (ys := zs) fun y hy => by
            obtain ⟨c, rfl, _⟩ := hz y hy
            exact Nat.le_refl 1
          have e0 : ("" : Str).length = 0 := rfl
          rw [e0]
          omega
        · (repeat infer_instance)
          exact hN2 _ ⟨_, nm_join (by omega) (by omega) hz, rfl⟩
    · (repeat infer_instance)
      exact hN2 _ ⟨_, ok0, rfl⟩
    · obtain ⟨w, okw, rfl⟩ := hE'
      have hwl : w.length ≤ 6 := okw.hi
      (repeat infer_instance)
      refine comp_map (fun c => PyData.str ⟨#[c]⟩) (fun c => .str (otherS w c)) (by rw [show ("abcdefghijklmnopqrstuvwxyz" : Str) = lettersS from rfl, letters_toList]; simp) (fun c0 hc k1 q1 => ?_) ?_
      · (repeat infer_instance)
        refine slK_str (by omega) ?_
        (repeat infer_instance)
        refine zo_addS ?_ ?_
        · have : (Txt.slice w none (some ((5 : Nat) : Int))).length ≤ 5 := by
            rw [← len_cps, slice_upto, List.length_take]
            omega
          have e : (⟨#[c0]⟩ : Str).length = 1 := rfl
          rw [e]
          exact Nat.le_trans (Nat.add_le_add_right this 1) (by decide)
        · (repeat infer_instance)
          exact q1 _ rfl
      · (repeat infer_instance)
        refine zo_addL (by simp; rw [show ("abcdefghijklmnopqrstuvwxyz" : Str) = lettersS from rfl, size_cps, ← len_cps, letters_toList]; simp) ?_
        (repeat infer_instance)
        have e : (PyData.str w :: List.map (fun c => PyData.str (otherS w c)) ("abcdefghijklmnopqrstuvwxyz" : Str).cps.toList) = (candS w).map .str := by
          unfold candS
          rw [List.map_cons, List.map_map]
          rfl
        rw [e]
        refine comp_filter PyData.str (fun z => !decide (z ∈ ws)) PyData.str (by unfold candS; rw [letters_toList]; simp) (fun z hz k1 k0 q1 q0 => ?_) ?_
        · (repeat infer_instance)
          refine zo_notInL ⟨.inl rfl, dpDs_strs ws, rfl, plDs_strs ws⟩ ?_
          rw [any_in]
          show holdA _ _ (.d (.bool (!decide (z ∈ ws))))
          (repeat infer_instance)
          refine itK_b (fun h => ?_) (fun h => ?_)
          · (repeat infer_instance)
            exact q1 h _ rfl
          · exact q0 h _ rfl
        · (repeat infer_instance)
          obtain ⟨z0, hz0, hf⟩ := cand_free (w := w) (ws := ws) (by omega)
          have hz1 : z0 ∈ (candS w).filter fun z => !decide (z ∈ ws) := List.mem_filter.mpr ⟨hz0, by simp [hf]⟩
          cases ef : (candS w).filter fun z => !decide (z ∈ ws) with
          | nil => rw [ef] at hz1; cases hz1
          | cons z1 r1 =>
            have hm1 : z1 ∈ (candS w).filter fun z => !decide (z ∈ ws) := by rw [ef]; exact List.mem_cons_self ..
            obtain ⟨h1, h2⟩ := List.mem_filter.mp hm1
            have h2 : z1 ∉ ws := by simpa using h2
            rw [List.map_cons]
            refine zo_ixLn (m := 0) rfl ?_
            (repeat infer_instance)
            refine zo_app (by simp; omega) ?_
            (repeat infer_instance)
            refine hN _ ⟨ws ++ [z1], _, _, _, _, by simp [hl], ?_, fun x hx => ?_, .inr rfl, by rw [List.map_append]; rfl⟩
            · exact List.nodup_append.mpr ⟨nd, by simp, fun a ha b hb => by rw [List.mem_singleton.mp hb]; exact fun e => h2 (e ▸ ha)⟩
            · rcases List.mem_append.mp hx with hx | hx
              · exact ok x hx
              · rw [List.mem_singleton.mp hx]
                exact cand_ok okw z1 h1
  · obtain ⟨ws, m, a, b, c, hl, nd, ok, hm, rfl⟩ := hE
    (repeat infer_instance)
    exact k ws hl nd ok
end
end Kf

set_option Elab.async false
set_option linter.all false
set_option maxRecDepth 100000
set_option maxHeartbeats 2000000
namespace Kf
open PySem PySem.Spec PyProof.Rows L2 LamX NdefX
/-! ## pure: texts in order -/
def ltS (a b : Str) : Prop := a.cps.toList < b.cps.toList
abbrev SS (l : List Str) : Prop := l.Pairwise ltS
theorem ltS_trans {a b c : Str} (h : ltS a b) (k : ltS b c) : ltS a c := List.lt_trans h k
theorem not_lt_trans {a b c : List Nat} (h : ¬ b < a) (k : ¬ c < b) : ¬ c < a := List.le_trans h k
theorem ltS_of {a b : Str} (h : ¬ b.cps.toList < a.cps.toList) (ne : a ≠ b) : ltS a b := by
  by_cases q : a.cps.toList < b.cps.toList
  · exact q
  · exact absurd (str_cps (List.le_antisymm h q)) ne
theorem rising_le : ∀ {l : List Str} {p : Str}, risingS p l = true → (p :: l).Pairwise fun a b => ¬ b.cps.toList < a.cps.toList
  | [], p, _ => by simp
  | x :: r, p, h => by
    simp only [risingS, Bool.and_eq_true, Bool.not_eq_true', ltCps_eq, decide_eq_false_iff_not] at h
    have ih := rising_le h.2
    refine List.pairwise_cons.mpr ⟨fun y hy => ?_, ih⟩
    rcases List.mem_cons.mp hy with rfl | hy
    · exact h.1
    · exact not_lt_trans h.1 ((List.pairwise_cons.mp ih).1 y hy)
theorem sorted_ss {l : List Str} (h : sortedS l = true) (nd : l.Nodup) : SS l := by
  have hp : l.Pairwise fun a b => ¬ b.cps.toList < a.cps.toList := by
    cases l with
    | nil => exact .nil
    | cons x r => exact rising_le h
  exact (hp.and nd).imp fun ⟨a, b⟩ => ltS_of a b
theorem lt_str {a b : Str} (h : ltS a b) : PySem.W.dataLt (.str a) (.str b) = true := by
  rw [PySem.W.dataLt_str]
  exact decide_eq_true h
theorem asc_pw : ∀ {l : List PyData}, (l.Pairwise fun a b => PySem.W.dataLt a b = true) → ascB l = true
  | [], _ => rfl
  | [a], _ => rfl
  | a :: b :: r, h => by
    have h1 := List.pairwise_cons.mp h
    rw [ascB, Bool.and_eq_true]
    exact ⟨h1.1 b (List.mem_cons_self ..), asc_pw h1.2⟩
theorem asc_strs {l : List Str} (h : SS l) : ascB (l.map .str) = true := asc_pw (List.Pairwise.map _ (fun _ _ => lt_str) h)
def ltE (a b : Ev) : Prop := PySem.W.dataLt (evD a) (evD b) = true
theorem ltE_iff (a b : Ev) : PySem.W.dataLt (evD a) (evD b) = if a.1 = b.1 then (if a.2 = b.2 then false else PySem.W.dataLt (.str a.2) (.str b.2)) else PySem.W.dataLt (.str a.1) (.str b.1) := by
  unfold evD
  rw [PySem.W.dataLt_pair rfl rfl]
  have e : ∀ x y : Str, (PyData.eqv (.str x) (.str y) = true) = (x = y) := fun x y => by simp [PyData.eqv]
  simp only [e]
theorem ltE_same {w p q : Str} (h : ltS p q) : ltE (w, p) (w, q) := by
  unfold ltE
  rw [ltE_iff]
  have hne : p ≠ q := fun e => by subst e; exact List.lt_irrefl _ h
  simp only [if_true, if_neg hne]
  exact lt_str h
theorem ltE_fm {p q : Str} : ltE ("fail", p) ("mend", q) := by
  unfold ltE
  rw [ltE_iff]
  have e1 : ¬ (("fail" : Str) = "mend") := by decide +kernel
  have e2 : PySem.W.dataLt (.str "fail") (.str "mend") = true := by decide +kernel
  rw [if_neg e1]
  exact e2
def evsOf (ps : List Str) : List Ev := ps.map (fun p => (("fail", p) : Ev)) ++ ps.map fun p => (("mend", p) : Ev)
theorem evs_asc {ps : List Str} (h : SS ps) : (evsOf ps).Pairwise ltE := by
  unfold evsOf
  refine List.pairwise_append.mpr ⟨List.Pairwise.map _ (fun _ _ h => ltE_same h) h, List.Pairwise.map _ (fun _ _ h => ltE_same h) h, fun a ha b hb => ?_⟩
  obtain ⟨p, _, rfl⟩ := List.mem_map.mp ha
  obtain ⟨q, _, rfl⟩ := List.mem_map.mp hb
  exact ltE_fm
theorem evs_mem {ps : List Str} {e : Ev} (h : e ∈ evsOf ps) : (e.1 = "fail" ∨ e.1 = "mend") ∧ e.2 ∈ ps := by
  rcases List.mem_append.mp h with h | h
  · obtain ⟨p, hp, rfl⟩ := List.mem_map.mp h
    exact ⟨.inl rfl, hp⟩
  · obtain ⟨p, hp, rfl⟩ := List.mem_map.mp h
    exact ⟨.inr rfl, hp⟩
/-- a drawn machine -/
structure EngOk (ps : List Str) (rs : List Rw) : Prop where
  lo : 1 ≤ ps.length
  hi : ps.length ≤ 3
  nm : ∀ p ∈ ps, NmOk p
  ss : SS ps
  rlo : 1 ≤ rs.length
  rhi : rs.length ≤ 100
  mv : ∀ r ∈ rs, (r.mv.map (·.1)).Sublist (evsOf ps) ∧ ∀ m ∈ r.mv, m.2 < rs.length
theorem EngOk.len {ps : List Str} {rs : List Rw} (h : EngOk ps rs) : ∀ r ∈ rs, r.mv.length ≤ 6 := fun r hr => by
  have h1 := (h.mv r hr).1.length_le
  have h2 := h.hi
  simp [evsOf] at h1
  omega
theorem EngOk.inn {ps : List Str} {rs : List Rw} (h : EngOk ps rs) : RowsIn rs := ⟨by have := h.rhi; omega, fun r hr => ⟨by have := h.len r hr; omega, (h.mv r hr).2⟩⟩
theorem EngOk.ev {ps : List Str} {rs : List Rw} (h : EngOk ps rs) : ∀ r ∈ rs, ∀ m ∈ r.mv, (m.1.1 = "fail" ∨ m.1.1 = "mend") ∧ m.1.2 ∈ ps := fun r hr m hm =>
  evs_mem ((h.mv r hr).1.subset (List.mem_map.mpr ⟨m, hm, rfl⟩))
theorem NmOk.lows {z : Str} (h : NmOk z) : LowS z := h.low
theorem EngOk.low {ps : List Str} {rs : List Rw} (h : EngOk ps rs) : RowsLow rs := fun r hr m hm => by
  obtain ⟨h1, h2⟩ := h.ev r hr m hm
  have n := h.nm _ h2
  refine ⟨?_, n.lows, by have := n.hi; omega⟩
  rcases h1 with e | e <;> rw [e]
  · exact ⟨low_fail, by decide⟩
  · exact ⟨low_mend, by decide⟩
theorem EngOk.rows {ps : List Str} {rs : List Rw} (h : EngOk ps rs) : rowsB ps (rwsD rs) = true := by
  show (!(rs.map rwD).isEmpty && (rs.map rwD).all (rowB ps (rs.map rwD).length)) = true
  have h1 := h.rlo
  rw [Bool.and_eq_true]
  refine ⟨?_, ?_⟩
  · cases rs with
    | nil => simp at h1
    | cons => rfl
  · rw [List.all_eq_true]
    intro d hd
    obtain ⟨r, hr, rfl⟩ := List.mem_map.mp hd
    rw [List.length_map]
    show (((r.mv.map mvD).all (stepB ps rs.length)) && ascB ((r.mv.map mvD).map _)) = true
    rw [Bool.and_eq_true, List.all_eq_true]
    refine ⟨fun d hd => ?_, ?_⟩
    · obtain ⟨m, hm, rfl⟩ := List.mem_map.mp hd
      obtain ⟨h2, h3⟩ := h.ev r hr m hm
      have h4 := (h.mv r hr).2 m hm
      show (evB ps (evD m.1) && decide (0 ≤ (m.2 : Int)) && decide ((m.2 : Int) < (rs.length : Int))) = true
      rw [Bool.and_eq_true, Bool.and_eq_true]
      refine ⟨⟨?_, decide_eq_true (by omega)⟩, decide_eq_true (by omega)⟩
      show (inB ["fail", "mend"] (.str m.1.1) && inB ps (.str m.1.2)) = true
      rw [Bool.and_eq_true]
      exact ⟨decide_eq_true (by simpa using h2), decide_eq_true h3⟩
    · rw [List.map_map]
      have e : r.mv.map ((fun m => match m with | PyData.tuple (e :: _) => e | d => d) ∘ mvD) = (r.mv.map (·.1)).map evD := by
        rw [List.map_map]
        rfl
      have pw : ((r.mv.map (·.1)).map evD).Pairwise fun a b => PySem.W.dataLt a b = true := List.Pairwise.map _ (fun _ _ h => h) ((evs_asc h.ss).sublist (h.mv r hr).1)
      have := asc_pw pw
      rw [← e] at this
      exact this
theorem EngOk.names {ps : List Str} {rs : List Rw} (h : EngOk ps rs) : namesB (strsD ps) = true := by
  have h1 := h.lo
  have h2 := h.hi
  show (decide (1 ≤ (ps.map PyData.str).length) && decide ((ps.map PyData.str).length ≤ 8) && (ps.map PyData.str).all nmQ && ascB (ps.map .str)) = true
  simp only [List.length_map, Bool.and_eq_true, decide_eq_true_eq]
  refine ⟨⟨⟨h1, by omega⟩, ?_⟩, asc_strs h.ss⟩
  rw [List.all_eq_true]
  intro d hd
  obtain ⟨z, hz, rfl⟩ := List.mem_map.mp hd
  exact nmQ_iff.mpr (h.nm z hz)
theorem pl_strsD (ps : List Str) : plD (strsD ps) = true := by
  show plDs _ = true
  exact plDs_strs ps
theorem EngOk.pl2 (rs : List Rw) : plD (rwsD rs) = true := by
  show plDs _ = true
  refine pl_all fun d hd => ?_
  obtain ⟨r, hr, rfl⟩ := List.mem_map.mp hd
  have h1 : plDs (r.mv.map mvD) = true := pl_all fun d hd => by
    obtain ⟨m, hm, rfl⟩ := List.mem_map.mp hd
    simp [mvD, evD, plD, plDs]
  simp [rwD, plD, plDs, h1]
theorem EngOk.fit1 {ps : List Str} {rs : List Rw} (h : EngOk ps rs) : fitD 1 (strsD ps) = true := by
  show (decide ((ps.map PyData.str).length ≤ 1000) && (ps.map PyData.str).all (fitD 0)) = true
  have h2 := h.hi
  rw [Bool.and_eq_true, List.all_eq_true]
  refine ⟨decide_eq_true (by simp; omega), fun d hd => ?_⟩
  obtain ⟨z, hz, rfl⟩ := List.mem_map.mp hd
  have := (h.nm z hz).hi
  exact decide_eq_true (by omega)
theorem EngOk.fit2 {ps : List Str} {rs : List Rw} (h : EngOk ps rs) : fitD 6 (rwsD rs) = true := by
  have h2 := h.rhi
  show (decide ((rs.map rwD).length ≤ 1000) && (rs.map rwD).all (fitD 5)) = true
  rw [Bool.and_eq_true, List.all_eq_true]
  refine ⟨decide_eq_true (by simp; omega), fun d hd => ?_⟩
  obtain ⟨r, hr, rfl⟩ := List.mem_map.mp hd
  have hl := h.len r hr
  have h3 : fitD 4 (.tuple (r.mv.map mvD)) = true := by
    show (decide ((r.mv.map mvD).length ≤ 1000) && (r.mv.map mvD).all (fitD 3)) = true
    rw [Bool.and_eq_true, List.all_eq_true]
    refine ⟨decide_eq_true (by simp; omega), fun d hd => ?_⟩
    obtain ⟨m, hm, rfl⟩ := List.mem_map.mp hd
    have lo := h.low r hr m hm
    have a : decide (m.1.1.length ≤ 1000) = true := decide_eq_true (by omega)
    have b : decide (m.1.2.length ≤ 1000) = true := decide_eq_true (by omega)
    simp [mvD, evD, fitD]
    exact ⟨by omega, by omega⟩
  simp [rwD, fitD] at h3 ⊢
  exact h3
end Kf

set_option Elab.async false
set_option linter.all false
set_option maxRecDepth 100000
set_option maxHeartbeats 2000000
namespace Kf
open PySem PySem.Spec PyProof.Rows L2 LamX NdefX
local macro_rules
  | `(tactic| infer_instance) => `(tactic| (first
  | simp only [z_seq, z_if, z_ifT, z_ifF, z_ret, z_retN, z_next, z_set, z_drop, z_par, z_asg, z_for, z_setIt, z_sitA, z_sitB, z_sitH, z_var, z_varO, z_varD, z_varM, z_varB, z_mv, z_mvO, z_mvD, z_mvM, z_mvB, z_c, z_hold, z_op, z_cons, z_nil, z_toDd, z_toDo, z_stbd, z_stbo, z_stbm, z_stbb, z_call, z_toDs, z_dsK, z_dsnil, z_dsd, z_tup, z_lst, z_tru, z_truO, z_truOl, z_truOk, z_truOd, z_tb, z_tbK, z_and, z_andT, z_andF, z_or, z_orT, z_orF, z_not, z_andV, z_andVT, z_andVF, z_orV, z_orVT, z_orVF, z_notV, z_notVb, z_ifx, z_ifxT, z_ifxF, z_chain, z_chBT, z_chBF, z_chC, z_chainV, z_chVT, z_chVF, z_isi, z_cal, z_calB, z_bnil, z_bcons, z_bown, z_resn, z_resl, z_resr, z_look, z_lookO, z_lookD, z_callO, z_opO2, z_opO1, z_ixO, z_partN, z_part, z_partK, z_sl, z_slL, z_slT, z_rev, z_revK, z_comp, z_sq, z_sqK, z_itl, z_itt, z_range, z_range2, z_enum, z_signs, z_signK, z_name, z_tupG, z_consG, z_nilG, z_yes, z_ownM, z_ownG, z_ownH, z_pairsN, z_pairsC, z_dict, z_dict0, z_hnil, z_hcons, z_hhole, z_hlast, z_rep, z_calW, z_calT, z_holdW, z_holdW0, z_varA, z_mvA, z_stbA, z_isN, z_isnN, z_isnB, z_isnI, z_isnS, z_isnL, z_isnT, z_isnD, z_isnO, z_isnOb, z_isnA, z_join, z_holdP, z_holdB, z_holdX, z_calm, z_make, z_metX, z_calX, z_xof, z_told, z_isX, z_xf, z_raise, z_raiseN, z_att, z_iSeq, z_iOf, z_iFld, isStrD, isTupD, isLstD, isBoolD, isIntD, zm_cons, zm_nil, za_cons, za_nil, zs_succ, zs_zero, zg_succ, zg_zero, zo_some, zo_none, zn_t, zn_f, zw_nil, zw_cons, zk_nil, zk_cons, zk_d, zk_n, zk_o, zq_str, decide_true, decide_false, Int.reduceBEq, Int.reduceBNe, Nat.reduceBEq, Int.reduceAdd, Int.reduceSub, Int.reduceNeg, Nat.reduceAdd, Nat.reduceSub]
  | ((with_reducible refine setK_ok ?_ ?_); (· exact rfl))
  | ((with_reducible refine calK_ok ?_ ?_); (· exact rfl))
  | with_reducible refine holdA_b ?_
  | with_reducible refine holdA_i ?_
  | with_reducible refine truK_b ?_
  | ((with_reducible refine isiK_ok ?_ ?_); (· exact rfl))
  | ((with_reducible refine trdK_ok ?_ ?_); (· exact rfl))
  | ((with_reducible refine calBK_ok ?_ ?_); (· exact rfl))
  | ((with_reducible refine tupK_ok ?_ ?_); (· exact rfl))
  | ((with_reducible refine lstK_ok ?_ ?_); (· exact rfl))
  | ((with_reducible refine parK_ok ?_ ?_ ?_); (· exact rfl); (· exact rfl))
  | ((with_reducible refine tupG_ok ?_ ?_); (· exact rfl))
  | ((with_reducible refine ownK_ok ?_ ?_); (· exact rfl))
  | with_reducible refine holdA_s ?_
  | with_reducible refine holdA_n ?_
  | with_reducible refine truK_l ?_
  | with_reducible refine truK_t ?_
  | with_reducible refine truK_i ?_
  | with_reducible refine truK_n ?_
  | ((with_reducible refine dictK_ok ?_ ?_ ?_); (· exact rfl); (· exact rfl))
  | ((with_reducible refine calTK_ok ?_ ?_ ?_ ?_); (· exact rfl); (· exact rfl); (· exact rfl))
  | ((with_reducible refine calWK_ok ?_ ?_ ?_ ?_ ?_); (· exact rfl); (· exact rfl); (· exact rfl); (· exact rfl))
  | ((with_reducible refine makeK_ok ?_ ?_); (· exact rfl))
  | ((with_reducible refine calXK_ok ?_ ?_); (· exact rfl))
  | ((with_reducible refine metA_ok ?_ ?_); (· exact rfl))
  | ((with_reducible refine metK_ok ?_ ?_); (· with_unfolding_all rfl))
  | ((with_reducible apply attK_ok); (· with_unfolding_all rfl))
  | ((with_reducible refine fldK_ok ?_ ?_ ?_); (· with_unfolding_all rfl); (· exact rfl))
  | ((with_reducible refine raiseNK_ok ?_ ?_); (· exact rfl))
  | with_reducible refine holdT_ok ?_
  | with_reducible refine zo_int ?_
  | with_reducible refine zo_eqI ?_
  | with_reducible refine zo_neI ?_
  | with_reducible refine zo_add ?_
  | with_reducible refine zo_lenL ?_
  | with_reducible refine zo_lenT ?_
  | with_reducible refine zo_lstL ?_
  | with_reducible refine zo_lstT ?_
  | with_reducible refine zo_tupL ?_
  | with_reducible refine zo_tupT ?_
  | with_reducible refine zo_min2 ?_
  | with_reducible refine zo_max2 ?_
  | with_reducible refine zo_eqS ?_
  | with_reducible refine zo_neS ?_
  | ((with_reducible apply zo_ixL); (· exact rfl))
  | ((with_reducible apply zo_ixT); (· exact rfl))))
/-! ## pure: a drawn machine, a drawn row of events -/
theorem relL_sub {α β : Type} {P : α → Option β → Prop} {f : α → β} (h : ∀ x o, P x o → o = some (f x) ∨ o = none) : ∀ {xs : List α} {ys : List β}, RelL P xs ys → ∃ zs : List α, zs.Sublist xs ∧ ys = zs.map f
  | _, _, .nil => ⟨[], .slnil, rfl⟩
  | x :: xs, _, .some (y := y) hp r => by
    obtain ⟨zs, h1, rfl⟩ := relL_sub h r
    have e : y = f x := by
      rcases h _ _ hp with e | e
      · exact Option.some.inj e
      · cases e
    exact ⟨x :: zs, h1.cons₂ x, by rw [e]; rfl⟩
  | x :: xs, _, .none hp r => by
    obtain ⟨zs, h1, rfl⟩ := relL_sub h r
    exact ⟨zs, h1.cons x, rfl⟩
theorem paired_moves {many : Nat} : ∀ {zs : List Ev} {ys : List PyData}, Paired (fun e y => ∃ j : Nat, j < many ∧ y = mvD (e, j)) zs ys → ∃ mv : List (Ev × Nat), mv.map (·.1) = zs ∧ (∀ m ∈ mv, m.2 < many) ∧ ys = mv.map mvD
  | _, _, .nil => ⟨[], rfl, by simp, rfl⟩
  | e :: zs, _, .cons ⟨j, hj, ey⟩ r => by
    obtain ⟨mv, h1, h2, rfl⟩ := paired_moves r
    refine ⟨(e, j) :: mv, by rw [List.map_cons, h1], fun m hm => ?_, by rw [ey]; rfl⟩
    rcases List.mem_cons.mp hm with rfl | hm
    · exact hj
    · exact h2 m hm
/-- a name whose list is one's own, or was so -/
theorem var_od {i : Nat} {x : PyData} {e : Option Rv} (he : e = some (.o x) ∨ e = some (.d x)) {R : Rv → EnvD → Prop} {E : EnvD} (q : R (.d x) (E.set i (some (.d x)))) (h : E.set i e = E) : varK (some e) i R E := by
  rcases he with rfl | rfl
  · exact q
  · rw [h] at q
    exact q
section
variable {d L C : Addr}
theorem q_engine {most : Nat} {R : Rv → Prop} (h0 : 1 ≤ most) (h1 : most ≤ 50) (k : ∀ ps rs, EngOk ps rs → R (.d (.tuple [strsD ps, rwsD rs]))) : f__law_engine [.m (drC d L C), .d (.int (most : Int))] R := by
  unfold f__law_engine t__law_engine
  dsimp only [defT, defM, zm_cons, zm_nil, za_cons, za_nil, List.length_cons, List.length_nil, Nat.reduceAdd, Nat.reduceSub, List.replicate]
  (repeat infer_instance)
  refine take_nat (by omega) (by omega) fun j0 hj0 => ?_
  (repeat infer_instance)
  rw [show (1 + (j0 : Int)) = ((1 + j0 : Nat) : Int) by omega]
  refine q_words (by omega) fun ws hwl hnd hok => ?_
  (repeat infer_instance)
  refine zo_sortS (by omega) fun ps hp hs => ?_
  (repeat infer_instance)
  have hpl : ps.length = 1 + j0 := by rw [hp.length_eq, hwl]
  have hpn : ∀ p ∈ ps, NmOk p := fun p hm => hok p (hp.subset hm)
  have hss : SS ps := sorted_ss hs (hp.nodup_iff.mpr hnd)
  refine comp_map PyData.str (fun p => evD ("fail", p)) (by omega) (fun p hp k1 q1 => ?_) ?_
  · (repeat infer_instance)
    exact q1 _ rfl
  (repeat infer_instance)
  refine comp_map PyData.str (fun p => evD ("mend", p)) (by omega) (fun p hp k1 q1 => ?_) ?_
  · (repeat infer_instance)
    exact q1 _ rfl
  (repeat infer_instance)
  refine zo_addL (by simp; omega) ?_
  have ee : ps.map (fun p => evD ("fail", p)) ++ ps.map (fun p => evD ("mend", p)) = (evsOf ps).map evD := by
    unfold evsOf
    rw [List.map_append, List.map_map, List.map_map]
    rfl
  rw [ee]
  have evl : (evsOf ps).length ≤ 6 := by simp [evsOf]; omega
  (repeat infer_instance)
  refine take_nat (by omega) (by omega) fun j1 hj1 => ?_
  (repeat infer_instance)
  rw [show (1 + (j1 : Int)) = ((1 + j1 : Nat) : Int) by omega]
  refine take_nat (by omega) (by omega) fun j2 hj2 => ?_
  (repeat infer_instance)
  rw [show (1 + (j2 : Int)) = ((1 + j2 : Nat) : Int) by omega]
  refine rangeK_ok (by omega) ?_
  rw [range_nat]
  refine comp_eachJ (fun j : Nat => .int (0 + (j : Int))) (fun _ y => ∃ zs : List Ev, zs.Sublist (evsOf ps) ∧ y = .list (zs.map evD)) (fun E => ∃ e, (e = some (.o (.list ((evsOf ps).map evD))) ∨ e = some (.d (.list ((evsOf ps).map evD)))) ∧ E = [some (.m (drC d L C)), some (.d (.int (most : Int))), some (.d (strsD ps)), e, some (.d (.int ((1 + j1 : Nat) : Int))), some (.o (.list [])), none, none, none, none, none, none]) (by simp; omega) ⟨_, .inl rfl, rfl⟩ (fun x hx E0 hE0 k1 q1 => ?_) (fun sh E2 hsh hE2 => ?_)
  · obtain ⟨e, he, rfl⟩ := hE0
    (repeat infer_instance)
    have hv : ∀ {R : Rv → EnvD → Prop} {E : EnvD}, (R (.d (.list ((evsOf ps).map evD))) (E.set 3 (some (.d (.list ((evsOf ps).map evD)))))) → (E.set 3 e = E) → varK (some e) 3 R E := var_od he
    refine hv ?_ rfl
    (repeat infer_instance)
    refine comp_rel evD (fun e o => o = some (evD e) ∨ o = none) (by omega) (fun e he k2 k0 q2 q0 => ?_) (fun ys hy => ?_)
    · (repeat infer_instance)
      refine take_nat (by omega) (by omega) fun j3 hj3 => ?_
      (repeat infer_instance)
      refine itK_b (fun h => ?_) (fun h => ?_)
      · (repeat infer_instance)
        exact q2 _ (.inl rfl) _ rfl
      · exact q0 (.inr rfl) _ rfl
    · obtain ⟨zs, hz, rfl⟩ := relL_sub (fun _ _ h => h) hy
      (repeat infer_instance)
      exact q1 _ ⟨zs, hz, rfl⟩ _ ⟨_, .inr rfl, rfl⟩
  obtain ⟨e3, he3, rfl⟩ := hE2
  have shl : sh.length = 1 + j2 := by rw [← pairLen hsh]; simp
  have shm : ∀ y ∈ sh, ∃ zs : List Ev, zs.Sublist (evsOf ps) ∧ y = .list (zs.map evD) := fun y hy => by
    obtain ⟨_, _, h⟩ := paired_get hsh y hy
    exact h
  (repeat infer_instance)
  refine rangeK_ok (by omega) ?_
  refine for_nat (fun i E => ∃ rs : List Rw, ∃ e s a b : Option Rv, rs.length = i ∧ (∀ r ∈ rs, (r.mv.map (·.1)).Sublist (evsOf ps) ∧ ∀ m ∈ r.mv, m.2 < 1 + j1) ∧ (s = some (.o (.list sh)) ∨ s = some (.d (.list sh))) ∧ E = [some (.m (drC d L C)), some (.d (.int (most : Int))), some (.d (strsD ps)), e, some (.d (.int ((1 + j1 : Nat) : Int))), some (.o (.list (rs.map rwD))), s, a, b, none, none, none]) ⟨[], _, _, _, _, rfl, by simp, .inl rfl, rfl⟩ (fun i hi E hE N hN => ?_) (fun E hE => ?_)
  · obtain ⟨rs, e, s, a, b, hl, hrs, hs, rfl⟩ := hE
    (repeat infer_instance)
    refine var_od hs ?_ rfl
    (repeat infer_instance)
    refine pick_seq rfl (by omega) (by omega) fun y hy => ?_
    obtain ⟨zs, hz, rfl⟩ := shm y hy
    have hzl : zs.length ≤ 6 := Nat.le_trans hz.length_le evl
    (repeat infer_instance)
    refine comp_each evD (fun e y => ∃ j : Nat, j < 1 + j1 ∧ y = mvD (e, j)) (by omega) (fun e he k1 q1 => ?_) (fun ys hy => ?_)
    · (repeat infer_instance)
      refine take_nat (by omega) (by omega) fun j hj => ?_
      (repeat infer_instance)
      exact q1 _ ⟨j, by omega, rfl⟩ _ rfl
    · obtain ⟨mv, hm1, hm2, rfl⟩ := paired_moves hy
      (repeat infer_instance)
      refine take_nat (by omega) (by omega) fun j3 hj3 => ?_
      (repeat infer_instance)
      refine zo_app (by simp; omega) ?_
      (repeat infer_instance)
      refine hN _ ⟨rs ++ [⟨(j3 : Int) == 0, mv⟩], _, _, _, _, by simp [hl], fun r hr => ?_, .inr rfl, by rw [List.map_append]; rfl⟩
      rcases List.mem_append.mp hr with hr | hr
      · exact hrs r hr
      · rw [List.mem_singleton.mp hr]
        exact ⟨by rw [hm1]; exact hz, hm2⟩
  · obtain ⟨rs, e, s, a, b, hl, hrs, hs, rfl⟩ := hE
    (repeat infer_instance)
    exact k ps rs ⟨by omega, by omega, hpn, hss, by omega, by omega, fun r hr => by rw [hl]; exact hrs r hr⟩
end
end Kf

set_option Elab.async false
set_option linter.all false
set_option maxRecDepth 100000
set_option maxHeartbeats 2000000
namespace Kf
open PySem PySem.Spec PyProof.Rows L2 LamX NdefX
local macro_rules
  | `(tactic| infer_instance) => `(tactic| (first
  | simp only [z_seq, z_if, z_ifT, z_ifF, z_ret, z_retN, z_next, z_set, z_drop, z_par, z_asg, z_for, z_setIt, z_sitA, z_sitB, z_sitH, z_var, z_varO, z_varD, z_varM, z_varB, z_mv, z_mvO, z_mvD, z_mvM, z_mvB, z_c, z_hold, z_op, z_cons, z_nil, z_toDd, z_toDo, z_stbd, z_stbo, z_stbm, z_stbb, z_call, z_toDs, z_dsK, z_dsnil, z_dsd, z_tup, z_lst, z_tru, z_truO, z_truOl, z_truOk, z_truOd, z_tb, z_tbK, z_and, z_andT, z_andF, z_or, z_orT, z_orF, z_not, z_andV, z_andVT, z_andVF, z_orV, z_orVT, z_orVF, z_notV, z_notVb, z_ifx, z_ifxT, z_ifxF, z_chain, z_chBT, z_chBF, z_chC, z_chainV, z_chVT, z_chVF, z_isi, z_cal, z_calB, z_bnil, z_bcons, z_bown, z_resn, z_resl, z_resr, z_look, z_lookO, z_lookD, z_callO, z_opO2, z_opO1, z_ixO, z_partN, z_part, z_partK, z_sl, z_slL, z_slT, z_rev, z_revK, z_comp, z_sq, z_sqK, z_itl, z_itt, z_range, z_range2, z_enum, z_signs, z_signK, z_name, z_tupG, z_consG, z_nilG, z_yes, z_ownM, z_ownG, z_ownH, z_pairsN, z_pairsC, z_dict, z_dict0, z_hnil, z_hcons, z_hhole, z_hlast, z_rep, z_calW, z_calT, z_holdW, z_holdW0, z_varA, z_mvA, z_stbA, z_isN, z_isnN, z_isnB, z_isnI, z_isnS, z_isnL, z_isnT, z_isnD, z_isnO, z_isnOb, z_isnA, z_join, z_holdP, z_holdB, z_holdX, z_calm, z_make, z_metX, z_calX, z_xof, z_told, z_isX, z_xf, z_raise, z_raiseN, z_att, z_iSeq, z_iOf, z_iFld, isStrD, isTupD, isLstD, isBoolD, isIntD, zm_cons, zm_nil, za_cons, za_nil, zs_succ, zs_zero, zg_succ, zg_zero, zo_some, zo_none, zn_t, zn_f, zw_nil, zw_cons, zk_nil, zk_cons, zk_d, zk_n, zk_o, zq_str, decide_true, decide_false, Int.reduceBEq, Int.reduceBNe, Nat.reduceBEq, Int.reduceAdd, Int.reduceSub, Int.reduceNeg, Nat.reduceAdd, Nat.reduceSub]
  | ((with_reducible refine setK_ok ?_ ?_); (· exact rfl))
  | ((with_reducible refine calK_ok ?_ ?_); (· exact rfl))
  | with_reducible refine holdA_b ?_
  | with_reducible refine holdA_i ?_
  | with_reducible refine truK_b ?_
  | ((with_reducible refine isiK_ok ?_ ?_); (· exact rfl))
  | ((with_reducible refine trdK_ok ?_ ?_); (· exact rfl))
  | ((with_reducible refine calBK_ok ?_ ?_); (· exact rfl))
  | ((with_reducible refine tupK_ok ?_ ?_); (· exact rfl))
  | ((with_reducible refine lstK_ok ?_ ?_); (· exact rfl))
  | ((with_reducible refine parK_ok ?_ ?_ ?_); (· exact rfl); (· exact rfl))
  | ((with_reducible refine tupG_ok ?_ ?_); (· exact rfl))
  | ((with_reducible refine ownK_ok ?_ ?_); (· exact rfl))
  | with_reducible refine holdA_s ?_
  | with_reducible refine holdA_n ?_
  | with_reducible refine truK_l ?_
  | with_reducible refine truK_t ?_
  | with_reducible refine truK_i ?_
  | with_reducible refine truK_n ?_
  | ((with_reducible refine dictK_ok ?_ ?_ ?_); (· exact rfl); (· exact rfl))
  | ((with_reducible refine calTK_ok ?_ ?_ ?_ ?_); (· exact rfl); (· exact rfl); (· exact rfl))
  | ((with_reducible refine calWK_ok ?_ ?_ ?_ ?_ ?_); (· exact rfl); (· exact rfl); (· exact rfl); (· exact rfl))
  | ((with_reducible refine makeK_ok ?_ ?_); (· exact rfl))
  | ((with_reducible refine calXK_ok ?_ ?_); (· exact rfl))
  | ((with_reducible refine metA_ok ?_ ?_); (· exact rfl))
  | ((with_reducible refine metK_ok ?_ ?_); (· with_unfolding_all rfl))
  | ((with_reducible apply attK_ok); (· with_unfolding_all rfl))
  | ((with_reducible refine fldK_ok ?_ ?_ ?_); (· with_unfolding_all rfl); (· exact rfl))
  | ((with_reducible refine raiseNK_ok ?_ ?_); (· exact rfl))
  | with_reducible refine holdT_ok ?_
  | with_reducible refine zo_int ?_
  | with_reducible refine zo_eqI ?_
  | with_reducible refine zo_neI ?_
  | with_reducible refine zo_add ?_
  | with_reducible refine zo_lenL ?_
  | with_reducible refine zo_lenT ?_
  | with_reducible refine zo_lstL ?_
  | with_reducible refine zo_lstT ?_
  | with_reducible refine zo_tupL ?_
  | with_reducible refine zo_tupT ?_
  | with_reducible refine zo_min2 ?_
  | with_reducible refine zo_max2 ?_
  | with_reducible refine zo_eqS ?_
  | with_reducible refine zo_neS ?_
  | ((with_reducible apply zo_ixL); (· exact rfl))
  | ((with_reducible apply zo_ixT); (· exact rfl))))
/-! ## pure: a drawn row of events -/
theorem dps_of {n : Nat} : ∀ {ds : List PyData}, (∀ d ∈ ds, dpD d ≤ n) → dpDs ds ≤ n
  | [], _ => by simp [dpDs]
  | d :: r, h => by
    have h1 := h d (List.mem_cons_self ..)
    have h2 := dps_of (ds := r) fun x hx => h x (List.mem_cons_of_mem _ hx)
    simp only [dpDs]
    omega
theorem goals_mem {ps : List Str} {rs : List Rw} (h : EngOk ps rs) {r : Rw} (hr : r ∈ rs) {m : Ev × Nat} (hm : m ∈ r.mv) : ∃ t, goalsR r (evD m.1) = m.2 :: t := by
  have pw : (r.mv.map (·.1)).Pairwise ltE := (evs_asc h.ss).sublist (h.mv r hr).1
  have nd : (r.mv.map (·.1)).Nodup := pw.imp fun {a b} q e => by
    subst e
    unfold ltE at q
    rw [ltE_iff] at q
    simp at q
  have inj : ∀ a ∈ r.mv, ∀ b ∈ r.mv, a.1 = b.1 → a = b := fun a ha b hb e => nodup_map_inj nd ha hb e
  have hin : m ∈ r.mv.filter fun m' => eqP (evD m'.1) (evD m.1) := List.mem_filter.mpr ⟨hm, by rw [eqP_ev]; exact decide_eq_true rfl⟩
  unfold goalsR
  cases e : r.mv.filter fun m' => eqP (evD m'.1) (evD m.1) with
  | nil => rw [e] at hin; cases hin
  | cons a t =>
    have ha : a ∈ r.mv.filter fun m' => eqP (evD m'.1) (evD m.1) := by rw [e]; exact List.mem_cons_self ..
    obtain ⟨h1, h2⟩ := List.mem_filter.mp ha
    rw [eqP_ev] at h2
    have := inj a h1 m hm (of_decide_eq_true h2)
    subst this
    exact ⟨_, rfl⟩
section
variable {d L C : Addr}
theorem q_story {ps : List Str} {rs : List Rw} {r0 : Rw} {R : Rv → Prop} (h : EngOk ps rs) (hr0 : rs[0]? = some r0) (k : ∀ es : List Ev, es.length ≤ 12 → (∀ e ∈ es, (e.1 = "fail" ∨ e.1 = "mend") ∧ e.2 ∈ ps) → (∃ bs, playR rs r0 0 (es.map evD) [] = .inr bs) → R (.o (.list (es.map evD)))) :
    f__law_story [.m (drC d L C), .d (strsD ps), .d (rwsD rs)] R := by
  unfold f__law_story t__law_story
  dsimp only [defT, defM, zm_cons, zm_nil, za_cons, za_nil, List.length_cons, List.length_nil, Nat.reduceAdd, Nat.reduceSub, List.replicate]
  (repeat infer_instance)
  refine take_nat (by omega) (by omega) fun n hn => ?_
  (repeat infer_instance)
  refine rangeK_ok (by omega) ?_
  have fin : ∀ (es : List Ev) (r : Rw) (i : Nat), es.length = i → i ≤ 12 → (∀ e ∈ es, (e.1 = "fail" ∨ e.1 = "mend") ∧ e.2 ∈ ps) → (∃ acc, ∀ ds, playR rs r0 0 (es.map evD ++ ds) [] = playR rs r i ds acc) → R (.o (.list (es.map evD))) := fun es r i hl hi hev ⟨acc, hp⟩ => k es (by omega) hev ⟨acc, by
    have := hp []
    rw [List.append_nil] at this
    rw [this]
    rfl⟩
  refine for_nat (fun i E => ∃ es : List Ev, ∃ r h : _, ∃ a b : Option Rv, es.length = i ∧ i ≤ 12 ∧ rs[h]? = some r ∧ (∀ e ∈ es, (e.1 = "fail" ∨ e.1 = "mend") ∧ e.2 ∈ ps) ∧ (∃ acc, ∀ ds, playR rs r0 0 (es.map evD ++ ds) [] = playR rs r i ds acc) ∧ E = [some (.m (drC d L C)), some (.d (strsD ps)), some (.d (rwsD rs)), some (.o (.list (es.map evD))), some (.d (.int ((h : Nat) : Int))), a, b]) ⟨[], r0, 0, _, _, rfl, by omega, hr0, by simp, ⟨[], fun ds => rfl⟩, rfl⟩ (fun i hi E hE N hN => ?_) (fun E hE => ?_)
  · obtain ⟨es, r, h1, a, b, hl, hi2, hr, hev, hp, rfl⟩ := hE
    have hmr := List.mem_of_getElem? hr
    (repeat infer_instance)
    refine zo_ixTn (m := h1) (x := rwD r) (by rw [List.getElem?_map, hr]; rfl) ?_
    simp only [rwD]
    (repeat infer_instance)
    refine zo_eqD ⟨?_, ?_, rfl⟩ ?_
    · have : dpDs (r.mv.map mvD) ≤ 3 := dps_of fun d hd => by
        obtain ⟨m, _, rfl⟩ := List.mem_map.mp hd
        simp [mvD, evD, dpD, dpDs]
      simp only [dpD]
      omega
    · have : plDs (r.mv.map mvD) = true := pl_all fun d hd => by
        obtain ⟨m, _, rfl⟩ := List.mem_map.mp hd
        simp [mvD, evD, plD, plDs]
      simpa [plD] using this
    cases em : r.mv with
    | nil =>
      simp only [List.map_nil, eqP, eqPs]
      (repeat infer_instance)
      exact fin es r i hl hi2 hev hp
    | cons m0 t0 =>
      simp only [List.map_cons, eqP, eqPs]
      (repeat infer_instance)
      refine zo_ixTn (m := h1) (x := rwD r) (by rw [List.getElem?_map, hr]; rfl) ?_
      simp only [rwD]
      (repeat infer_instance)
      have hlen := h.len r hmr
      refine pick_seq (ds := r.mv.map mvD) rfl (by rw [em]; simp) (by simp; omega) fun x hx => ?_
      obtain ⟨m, hm, rfl⟩ := List.mem_map.mp hx
      obtain ⟨t, hg⟩ := goals_mem h hmr hm
      have hj := (h.mv r hmr).2 m hm
      obtain ⟨r', hr'⟩ : ∃ r', rs[m.2]? = some r' := ⟨_, List.getElem?_eq_getElem hj⟩
      simp only [mvD]
      (repeat infer_instance)
      refine zo_app (by simp; omega) ?_
      (repeat infer_instance)
      obtain ⟨acc, hp⟩ := hp
      refine hN _ ⟨es ++ [m.1], r', m.2, _, _, by simp [hl], by omega, hr', fun e he => ?_, ⟨acc ++ [r'.st], fun ds => ?_⟩, by rw [List.map_append]; rfl⟩
      · rcases List.mem_append.mp he with he | he
        · exact hev e he
        · rw [List.mem_singleton.mp he]
          exact h.ev r hmr m hm
      · rw [List.map_append, List.append_assoc, hp]
        show playR rs r i (evD m.1 :: ds) acc = _
        rw [playR, hg]
        simp only [hr']
  · obtain ⟨es, r, h1, a, b, hl, hi2, hr, hev, hp, rfl⟩ := hE
    (repeat infer_instance)
    exact fin es r n hl hi2 hev hp
end
end Kf

set_option Elab.async false
set_option linter.all false
set_option maxRecDepth 100000
set_option maxHeartbeats 2000000
namespace Kf
open PySem PySem.Spec PyProof.Rows L2 LamX NdefX
section
variable {mg : Str → Option Value}
/-- _law_told, handed a lambda -/
theorem gives__law_told {a_NoEvent : Addr} {Tb : List NTab} {X : Cx} {g FE : Addr} {cdg : Value} {q : Str} (T : Nm X.mg) (G_NoEvent : X.mg "NoEvent" = some (.ref a_NoEvent)) (X_index : ∀ C ∈ [a_NoEvent], XfC X.K C ∧ PySem.W.findIn X.K (.ref C) "index" = some none) (hFE : X.mg "FaultError" = some (.ref FE)) :
    GivesS X ["work", "found", "error", "caught"] "_law_told" (defScope s__law_told) g cdg (defBody s__law_told) "work" q (TTc Tb X.kw (.ref FE) 4 (t__law_told X.kw a_NoEvent)) := by
  refine told_gives (by decide +kernel) rfl rfl rfl (fun s H => ⟨rfl, by decide, .inl hFE⟩) (fun s H => ⟨_, ps_asg (pe_tup (pa_cons pe_non (pa_cons pe_non pa_nil))) (pg_tup (n := 2) rfl (pgs_cons (pg_name (i := 1) sc__law_told.nd rfl (.inl rfl)) (pgs_cons (pg_name (i := 2) sc__law_told.nd rfl (.inl rfl)) pgs_nil))), fun D f H' h => ⟨by show 2 ≤ sizeLine; rw [sizeLine_eq]; omega, fun p np => ⟨p, [.non, .non], rfl, .of upd_same, rfl, .non, [.non], rfl, .non, [], rfl, rfl, h _ (Same.sm (Same.new np))⟩⟩⟩) (fun s H B h1 h2 h3 => ?_)
  first
    | exact rest__law_told (K := X.kw) (mg := X.mg) T X_index G_NoEvent X rfl rfl g cdg s H B h1 h2 h3
    | exact rest__law_told (K := X.kw) (mg := X.mg) T G_NoEvent X_index X rfl rfl g cdg s H B h1 h2 h3
end
end Kf

set_option Elab.async false
set_option linter.all false
set_option maxRecDepth 100000
set_option maxHeartbeats 2000000
namespace Kf
open PySem PySem.Spec PyProof.Rows L2 LamX NdefX
/-! ## a law as a whole: the draw is made, then all is read without a heap -/
theorem pss_any {X : Cx} {es : List Stmt} {t : TSD} {K : KW} {T : List NTab} (h : ∀ B : Bas, B.K = K → B.T = T → B.gv.map (·.1) = [] → PSs X es (liftS B t)) : PSs X es (fun D σ H => ∃ B : Bas, B.K = K ∧ B.T = T ∧ B.gv.map (·.1) = [] ∧ liftS B t D σ H) :=
  ⟨fun pins s σ H D I ⟨B, e1, e2, e3, q⟩ => (h B e1 e2 e3).run pins s σ H D I q⟩
/-- all but the draw is shared -/
noncomputable def noDr (H : Hp) (d L C : Addr) : Hp := fun a => if a = d ∨ a = L ∨ a = C then none else H a
noncomputable def ownDr (d L C : Addr) : Owns := fun a => if a = d ∨ a = L ∨ a = C then some .mu else none
theorem rep_begin {K : KW} {T : List NTab} {H : Hp} {d L C a : Addr} {ns : List Int} {n : Nat} (D : Dr H d L C) (tb : TabsN T H) (hS : SqL K (noDr H d L C) a (ns.map V.int)) :
    Rep ⟨T, K, H, noDr H d L C, [drC d L C], [], fun _ _ _ _ => False⟩ (ownDr d L C) (some (.ref a) :: some (.ref d) :: List.replicate n none) H (some (.d (.list (ns.map .int))) :: some (.m (drC d L C)) :: List.replicate n none) := by
  have eh : hid (ownDr d L C) H = noDr H d L C := by
    funext b
    unfold hid ownDr noDr
    by_cases z : b = d ∨ b = L ∨ b = C
    · rw [if_pos z, if_pos z]; rfl
    · rw [if_neg z, if_neg z]; rfl
  have mu : ∀ b, muW [drC d L C] b ↔ (b = d ∨ b = L ∨ b = C) := fun b => ⟨fun ⟨c, hc, m⟩ => by
    cases List.mem_singleton.mp hc
    exact m, fun m => ⟨_, List.mem_singleton.mpr rfl, m⟩⟩
  have there : ∀ b, (b = d ∨ b = L ∨ b = C) → H b ≠ none := fun b z e => by
    rcases z with rfl | rfl | rfl
    · obtain ⟨_, _, _, h⟩ := D.hd; rw [h] at e; cases e
    · obtain ⟨_, h⟩ := D.hL; rw [h] at e; cases e
    · obtain ⟨_, h⟩ := D.hC; rw [h] at e; cases e
  have das : ∀ {S : Hp} (l : List Int), DxAll K S (l.map V.int) (l.map .int) := fun {S} l => by
    induction l with
    | nil => exact .nil
    | cons i r ih => exact .cons (.int i) ih
  refine ⟨by simp, fun b e => ?_, SmM.refl, by rw [eh]; exact .refl _, tb, fun b h1 h2 h3 => ?_, fun b o e => ?_, ⟨fun b m => ?_, fun c hc => ?_, fun c hc c' hc' b _ _ => ?_, fun b w e => ?_⟩, fun i r e => ?_, fun i b m => by cases m⟩
  · unfold ownDr
    rw [if_neg (fun z => there b z e)]
  · have z : ¬ (b = d ∨ b = L ∨ b = C) := fun z => h3 (.inl ((mu b).mpr z))
    have h2 : noDr H d L C b = none := h2
    unfold noDr at h2
    rw [if_neg z] at h2
    exact absurd h2 h1
  · unfold ownDr at e
    split at e
    · exact .inr (.inl (Option.some.inj e).symm)
    · cases e
  · unfold ownDr
    rw [if_pos ((mu b).mp m)]
  · cases List.mem_singleton.mp hc
    exact D
  · rw [List.mem_singleton.mp hc, List.mem_singleton.mp hc']
  · unfold ownDr at e
    split at e
    · rename_i z; exact .inl ((mu b).mpr z)
    · cases e
  · match i with
    | 0 =>
      cases e
      refine ⟨_, rfl, ?_⟩
      show Dx K _ _ _
      rw [eh]
      exact .lst hS (das ns)
    | 1 =>
      cases e
      exact ⟨_, rfl, rfl, List.mem_singleton.mpr rfl⟩
    | i + 2 =>
      have e : (List.replicate n (none : Option Rv))[i]? = some (some r) := e
      rw [List.getElem?_replicate] at e
      split at e <;> cases e
def spLaw (K : PySem.W.Frag) (T0 : List NTab) : Sp := fun vs H Q _ => ∃ (a : Addr) (ns : List Int), vs = [.ref a] ∧ SqL K H a (ns.map V.int) ∧ ns.length ≤ 63 ∧ TabsN T0 H ∧ ∀ H', Q (.bl true) H'
/-- a law: `draw = _law_begin(script)`, then the rest -/
theorem ok_lawD {K : KW} {mg : Str → Option Value} {base : Heap} {T : List NTab} {st : Stmt} {f : Addr} {fd : FuncData} {N : List Str} {k : Nat} {t : TSD} {e1 : Stmt} {rest : List Stmt} (F : L2.Fun K.K "law" "law" st f fd) (S : FnScope N ["script"] (defScope st)) (hN : 2 ≤ N.length) (hb0 : defBody st = e1 :: rest)
    (hd : ∀ (cdv : Value) (A : Around) (outer : List Env) (s : Shared) (H : Hp) (E : XK), Room k (A.deeper (envOfC "law" (defScope st) s.heap.objs.size f cdv)) → PS (cxOf CX0 K.P K.w K.K mg base N "law" (defScope st) f cdv A outer s H E).nox e1 (tAsg (tCall (spBegin K) [] E0 (tCons (tVar 0) tNil)) (gName 1)))
    (hb : ∀ (cdv : Value) (A : Around) (outer : List Env) (s : Shared) (H : Hp) (E : XK) (B : Bas), B.K = K → B.T = T → B.gv.map (·.1) = [] → Room k (A.deeper (envOfC "law" (defScope st) s.heap.objs.size f cdv)) → (A.deeper (envOfC "law" (defScope st) s.heap.objs.size f cdv)).guards = some [] → PSs (cxOf CX0 K.P K.w K.K mg base N "law" (defScope st) f cdv A outer s H E).nox rest (liftS B t))
    (pure : ∀ (ns : List Int) (d L C : Addr), ns.length ≤ 63 → t { nx := fun _ => False, rt := fun r _ => r = .d (.bool true) } (some (.d (.list (ns.map .int))) :: some (.m (drC d L C)) :: List.replicate (N.length - 2) none)) :
    FnOkG K.P K.w K.K mg base (k + 1) f fd ["script"] (spLaw K.K T) := by
  refine okG F S (fun vs H Q E h => ?_) (fun cdv A outer s H vs Q E hr hg h => ?_)
  · obtain ⟨a, ns, rfl, _⟩ := h
    rfl
  · obtain ⟨a, ns, rfl, hS, hl, tb, q⟩ := h
    refine ⟨_, by rw [hb0]; exact pss_cons (hd cdv A outer s H E hr) (pss_any fun B h1 h2 h3 => hb cdv A outer s H E B h1 h2 h3 hr hg), ?_⟩
    refine ⟨.ref a, rfl, a, ns, rfl, hS, hl, fun H1 d L C D keep nd nL nC => ?_⟩
    have s1 : Same H H1 := keep
    have tb1 : TabsN T H1 := tb.ext s1
    have nn : ∀ o, H a = some o → noDr H1 d L C a = some o := fun o e => by
      unfold noDr
      rw [if_neg (fun z => by
        rcases z with rfl | rfl | rfl
        · rw [nd] at e; cases e
        · rw [nL] at e; cases e
        · rw [nC] at e; cases e)]
      exact keep a o e
    have hS1 : SqL K (noDr H1 d L C) a (ns.map V.int) := by
      rcases hS with (h | ⟨o, h⟩) | h
      · exact .inl (.inl (nn _ h))
      · exact .inl (.inr ⟨o, nn _ h⟩)
      · exact .inr h
    obtain ⟨m, em⟩ : ∃ m, N.length = m + 2 := ⟨N.length - 2, by omega⟩
    have eσ : (L2.start N [V.ref a]).set 1 (some (.ref d)) = some (.ref a) :: some (.ref d) :: List.replicate m none := by
      unfold L2.start
      rw [show N.length - [V.ref a].length = m + 1 by simp [em], List.replicate_succ]
      rfl
    have rep := rep_begin (K := K) (T := T) (n := m) D tb1 hS1
    have hp := pure ns d L C hl
    rw [show N.length - 2 = m by omega] at hp
    refine ⟨⟨T, K, H1, noDr H1 d L C, [drC d L C], [], fun _ _ _ _ => False⟩, rfl, rfl, rfl, ownDr d L C, _, _, (by rw [eσ]; exact rep), hp, fun _ _ _ _ z => z.elim, fun r own' E' σ' v H' hr ra _ => ?_, fun _ _ _ _ z => z.elim, fun _ _ _ _ z => z.elim, fun _ _ _ _ _ _ _ z => z.elim⟩
    subst hr
    cases (show Dx K _ v (.bool true) from ra)
    exact q H'
end Kf

set_option Elab.async false
set_option linter.all false
set_option maxRecDepth 100000
set_option maxHeartbeats 2000000
namespace Kf
open PySem PySem.Spec PyProof.Rows L2 LamX NdefX
/-- .. a law with lambdas -/
theorem ok_lawC {K : KW} {mg : Str → Option Value} {base : Heap} {T : List NTab} {st : Stmt} {f c : Addr} {fd : FuncData} {N : List Str} {k : Nat} {t : TSD} {e1 : Stmt} {rest : List Stmt} (F : FunC K.K "law" "law" st f fd c) (S : FnScope N ["script"] (defScope st)) (hN : 2 ≤ N.length) (hb0 : defBody st = e1 :: rest)
    (hd : ∀ (A : Around) (outer : List Env) (s : Shared) (H : Hp) (E : XK), Room k (A.deeper (envOfC "law" (defScope st) s.heap.objs.size f (.ref c))) → PS (cxOf CX0 K.P K.w K.K mg base N "law" (defScope st) f (.ref c) A outer s H E).nox e1 (tAsg (tCall (spBegin K) [] E0 (tCons (tVar 0) tNil)) (gName 1)))
    (hb : ∀ (A : Around) (outer : List Env) (s : Shared) (H : Hp) (E : XK) (B : Bas), B.K = K → B.T = T → B.gv.map (·.1) = [] → Room k (A.deeper (envOfC "law" (defScope st) s.heap.objs.size f (.ref c))) → (A.deeper (envOfC "law" (defScope st) s.heap.objs.size f (.ref c))).guards = some [] → PSs (cxOf CX0 K.P K.w K.K mg base N "law" (defScope st) f (.ref c) A outer s H E).nox rest (liftS B t))
    (pure : ∀ (ns : List Int) (d L C : Addr), ns.length ≤ 63 → t { nx := fun _ => False, rt := fun r _ => r = .d (.bool true) } (some (.d (.list (ns.map .int))) :: some (.m (drC d L C)) :: List.replicate (N.length - 2) none)) :
    FnOkG K.P K.w K.K mg base (k + 1) f fd ["script"] (spLaw K.K T) := by
  refine okGC F S (fun vs H Q E h => ?_) (fun A outer s H vs Q E hr hg h => ?_)
  · obtain ⟨a, ns, rfl, _⟩ := h
    rfl
  · obtain ⟨a, ns, rfl, hS, hl, tb, q⟩ := h
    refine ⟨_, by rw [hb0]; exact pss_cons (hd A outer s H E hr) (pss_any fun B h1 h2 h3 => hb A outer s H E B h1 h2 h3 hr hg), ?_⟩
    refine ⟨.ref a, rfl, a, ns, rfl, hS, hl, fun H1 d L C D keep nd nL nC => ?_⟩
    have s1 : Same H H1 := keep
    have tb1 : TabsN T H1 := tb.ext s1
    have nn : ∀ o, H a = some o → noDr H1 d L C a = some o := fun o e => by
      unfold noDr
      rw [if_neg (fun z => by
        rcases z with rfl | rfl | rfl
        · rw [nd] at e; cases e
        · rw [nL] at e; cases e
        · rw [nC] at e; cases e)]
      exact keep a o e
    have hS1 : SqL K (noDr H1 d L C) a (ns.map V.int) := by
      rcases hS with (h | ⟨o, h⟩) | h
      · exact .inl (.inl (nn _ h))
      · exact .inl (.inr ⟨o, nn _ h⟩)
      · exact .inr h
    obtain ⟨m, em⟩ : ∃ m, N.length = m + 2 := ⟨N.length - 2, by omega⟩
    have eσ : (L2.start N [V.ref a]).set 1 (some (.ref d)) = some (.ref a) :: some (.ref d) :: List.replicate m none := by
      unfold L2.start
      rw [show N.length - [V.ref a].length = m + 1 by simp [em], List.replicate_succ]
      rfl
    have rep := rep_begin (K := K) (T := T) (n := m) D tb1 hS1
    have hp := pure ns d L C hl
    rw [show N.length - 2 = m by omega] at hp
    refine ⟨⟨T, K, H1, noDr H1 d L C, [drC d L C], [], fun _ _ _ _ => False⟩, rfl, rfl, rfl, ownDr d L C, _, _, (by rw [eσ]; exact rep), hp, fun _ _ _ _ z => z.elim, fun r own' E' σ' v H' hr ra _ => ?_, fun _ _ _ _ z => z.elim, fun _ _ _ _ z => z.elim, fun _ _ _ _ _ _ _ z => z.elim⟩
    subst hr
    cases (show Dx K _ v (.bool true) from ra)
    exact q H'
end Kf

set_option Elab.async false
set_option linter.all false
set_option maxRecDepth 100000
set_option maxHeartbeats 2000000
namespace Kf
open PySem PySem.Spec PyProof.Rows L2 LamX NdefX
section
variable {K : KW} {mg : Str → Option Value} {base : Heap}
/-! ### law -/
def t_law (K : KW) (a_Machine a_BadMachine a_NoEvent a_FaultError : Addr) : TSD := (sSeq (sFor (dRange (dCons (dCall gMax2 (dCons (dC (.int 6)) (dCons (dCall gMin2 (dCons (dC (.int 24)) (dCons (dCallO gLen 0) dNil))) dNil))) dNil)) (dName 2)
 (sSeq (sAsg (dCal 2 f__law_engine (dCons (dVar 1) (dCons (dC (.int 5)) dNil))) (dTupG 2 (dConsG (dName 3) (dConsG (dName 4) dNilG))))
 (sSeq (sSet 5 (calmX (dMake a_Machine 2 (f_Machine___init__ a_Machine a_BadMachine) (dCons (dVar 3) (dCons (dVar 4) dNil)))))
 (sFor (dRange (dCons (dC (.int 4)) dNil)) (dName 6)
 (sSeq (sSet 7 (dCal 3 f__law_story (dCons (dVar 1) (dCons (dVar 3) (dCons (dVar 4) dNil)))))
 (sSeq (sSet 8 (dTold K (fun C => C ∈ [a_NoEvent]) 4 (t__law_told K a_NoEvent) (dMetX a_Machine "play" 2 (f_Machine_play a_NoEvent a_Machine) (dVar 5) (dCons (dVar 7) dNil))))
 (sSeq (sIf (dOr (dTb (dOpO1 gNe 8 (dCal 2 f__law_due (dCons (dVar 4) (dCons (dVar 7) dNil))))) (dTb (dOpO2 gNe (dTold K (fun C => C ∈ [a_NoEvent]) 4 (t__law_told K a_NoEvent) (dMetX a_Machine "play" 2 (f_Machine_play a_NoEvent a_Machine) (dVar 5) (dCons (dCall gTuple (dCons (dVar 7) dNil)) dNil))) 8)))
 (sRet (dC (.bool false)))
 sNext)
 (sSeq (sDrop (dOwnM "list" gAppend 8 (dCons (dC .none) dNil)))
 (sSeq (sSet 9 (dCal 2 f_take (dCons (dVar 1) (dCons (dOp gAdd (dCallO gLen 7) (dC (.int 1))) dNil))))
 (sSeq (sSet 10 (dLst (dCons (dC .none) (dCons (dC (.int 5)) (dCons (dTup dNil) (dCons (dTup (dCons (dC (.str "fail")) dNil)) (dCons (dLst (dCons (dC (.str "fail")) (dCons (dOp gIx (dVar 3) (dC (.int 0))) dNil))) (dCons (dTup (dCons (dC (.str "fail")) (dCons (dC (.str "nobody")) dNil))) (dCons (dTup (dCons (dC (.str "wait")) (dCons (dOp gIx (dVar 3) (dC (.int 0))) dNil))) (dCons (dC (.str "fail")) (dCons (dC (.bool true)) dNil)))))))))))
 (sSeq (sSet 10 (dOp gAdd (dVar 10) (dLst (dCons (dTup (dCons (dC (.str "mend")) (dCons (dOp gIx (dVar 3) (dC (.int 0))) dNil))) (dCons (dTup (dCons (dC (.str "fail")) (dCons (dOp gIx (dVar 3) (dC (.int (-1)))) dNil))) (dCons (dTup (dCons (dC (.str "fail")) (dCons (dOp gIx (dVar 3) (dC (.int 0))) (dCons (dC (.int 0)) dNil)))) (dCons dDict0 (dCons (dTup (dCons (dC (.str "fail")) (dCons (dC .none) dNil))) dNil))))))))
 (sSeq (sSet 11 (dOp gAdd (dOp gAdd (dSl (dVar 7) dPartN (dPart (dVar 9))) (dLst (dCons (dCal 2 f__law_pick (dCons (dVar 1) (dCons (dVar 10) dNil))) dNil))) (dSl (dVar 7) (dPart (dVar 9)) dPartN)))
 (sSeq (sSet 12 (dCal 2 f__law_due (dCons (dVar 4) (dCons (dVar 11) dNil))))
 (sSeq (sIf (dTb (dOp gNe (dCall gRepr (dCons (dTold K (fun C => C ∈ [a_NoEvent]) 4 (t__law_told K a_NoEvent) (dMetX a_Machine "play" 2 (f_Machine_play a_NoEvent a_Machine) (dVar 5) (dCons (dVar 11) dNil))) dNil)) (dCallO gRepr 12)))
 (sRet (dC (.bool false)))
 sNext)
 (sIf (dTb (dOp gNe (dTold K (fun C => C ∈ [a_NoEvent]) 4 (t__law_told K a_NoEvent) (dMetX a_Machine "play" 2 (f_Machine_play a_NoEvent a_Machine) (dVar 5) (dCons (dCal 2 f__law_pick (dCons (dVar 1) (dCons (dLst (dCons (dC .none) (dCons (dC (.int 5)) (dCons (dC (.str "fail")) (dCons dDict0 (dCons (dC (.bool true)) dNil)))))) dNil))) dNil))) (dC (.int 0))))
 (sRet (dC (.bool false)))
 sNext)))))))))))))))
 (sRet (dC (.bool true))))
theorem dok_law {a_Machine a_BadMachine a_NoEvent a_FaultError : Addr} {f : Addr} {fd : FuncData} {Tb : List NTab} {cL : Addr} (F : FunC K.K "law" "law" s_law f fd cL) (LM : LmAt base mg (.ref cL) Tb "law.<locals>.") (T : Nm mg) (MK_Machine : MkX K.P K.w K.K mg base 5 "Machine" a_Machine ["self", "parts", "rows"] (spIni Tb K a_Machine 2 (f_Machine___init__ a_Machine a_BadMachine))) (MT_Machine_play : MtX K.P K.w K.K mg base 3 a_Machine "play" (spTX Tb K 2 (f_Machine_play a_NoEvent a_Machine))) (W__law_told : ToldC K mg Tb "_law_told" "work" "found" "error" "caught" (.ref a_FaultError) (t__law_told K a_NoEvent)) (O__law_told : ∀ C, C ∈ [a_NoEvent] → PySem.W.exmOne K.K (.ref C) (.ref a_FaultError) = some true) (MTK_Machine_play : MtXK K.P K.w K.K mg base 3 a_Machine "play" ["events"] (spTX Tb K 2 (f_Machine_play a_NoEvent a_Machine))) (C__law_engine : Cal K.P K.w K.K mg base 4 "_law_engine" ["draw", "most"] (spT Tb K 2 f__law_engine)) (C__law_story : Cal K.P K.w K.K mg base 3 "_law_story" ["draw", "parts", "lists"] (spT Tb K 3 f__law_story)) (C__law_take : Cal K.P K.w K.K mg base 1 "_law_take" ["draw", "size"] (spT Tb K 2 f_take)) (C__law_due : CalG K.P K.w K.K mg base 3 "_law_due" ["lists", "story"] (spT Tb K 2 f__law_due)) (C__law_pick : Cal K.P K.w K.K mg base 2 "_law_pick" ["draw", "some"] (spT Tb K 2 f__law_pick)) (C__law_begin : Cal K.P K.w K.K mg base 1 "_law_begin" ["script"] (spBegin K)) (pure : ∀ (ns : List Int) (d L C : Addr), ns.length ≤ 63 → t_law K a_Machine a_BadMachine a_NoEvent a_FaultError { nx := fun _ => False, rt := fun r _ => r = .d (.bool true) } (some (.d (.list (ns.map .int))) :: some (.m (drC d L C)) :: List.replicate 11 none)) : FnOkG K.P K.w K.K mg base 12 f fd ["script"] (spLaw K Tb) :=
  ok_lawC (e1 := (defBody s_law).head (by decide)) (rest := (defBody s_law).tail) F sc_law (by decide) (by rfl) (fun A outer s H E hr => ps_set (i := 1) sc_law.nd rfl (.inr rfl) (pe_cal C__law_begin (by decide) hr (by rfl) (pa_cons (pv 0) pa_nil)))
    (fun A outer s H E B hK hT hG hr hgd => by
    subst hK hT
    have hu := hu_of hr
    have hu65 := hr.u65
    have hu64 := hr.units
    have hng := ng_of hG
    exact (es_cons (es_for id_range1 gd_name (ps_for PassesOwn.never rfl (pi_range1 rfl T.n_range (ea_cons (ev_callB (call_max2 rfl) cg_max2 (by rfl) T.n_max (by decide +kernel) (ea_cons ev_int (ea_cons (ev_callB (call_min2 rfl) cg_min2 (by rfl) T.n_min (by decide +kernel) (ea_cons ev_int (ea_cons (ev_callO call_lenA cg_len (by rfl) T.n_len (by decide +kernel) (pv 0)) ea_nil))) ea_nil))) ea_nil)) (pg_name (i := 2) sc_law.nd rfl (.inl rfl))
 (es_cons (es_asg (gd_tup (gd_cons gd_name (gd_cons gd_name gd_nil))) (ps_asg (ev_D (ev_cal C__law_engine (by decide) hr (by rfl) (ea_cons (ev_name (pv 1)) (ea_cons ev_int ea_nil)))) (pg_tup (n := 2) rfl (pgs_cons (pg_name (i := 3) sc_law.nd rfl (.inl rfl)) (pgs_cons (pg_name (i := 4) sc_law.nd rfl (.inl rfl)) pgs_nil)))))
 (es_cons (es_set (hng 5 (by decide)) (ps_set (i := 5) sc_law.nd rfl (.inr rfl) (ev_calm (ev_make MK_Machine (takesF (fun _ _ _ _ z => z)) (by decide) hr (by rfl) (ea_cons (ev_name (pv 3)) (ea_cons (ev_name (pv 4)) ea_nil))))))
 (es_one (es_for id_range1 gd_name (ps_for PassesOwn.never rfl (pi_range1 rfl T.n_range (ea_cons ev_int ea_nil)) (pg_name (i := 6) sc_law.nd rfl (.inl rfl))
 (es_cons (es_set (hng 7 (by decide)) (ps_set (i := 7) sc_law.nd rfl (.inr rfl) (ev_cal C__law_story (by decide) hr (by rfl) (ea_cons (ev_name (pv 1)) (ea_cons (ev_name (pv 3)) (ea_cons (ev_name (pv 4)) ea_nil))))))
 (es_cons (es_set (hng 8 (by decide)) (ps_set (i := 8) sc_law.nd rfl (.inl rfl) (ev_toldC (k := 8) W__law_told LM rfl (by rfl) O__law_told (hr.mono (by decide)) (lamS_by (show lamSB (defScope s_law) _ = true by decide +kernel)) (fun A outer s H E f c' hg2 hr2 tk2 => (ev_metX MT_Machine_play tk2 (by decide) hr2 (ev_name (pv 5)) (ea_cons (ev_name (pv 7)) ea_nil))))))
 (es_cons (es_if (PW.pt (ew_or (et_cmpO1 (op_NeP hu64) og_ne (pv 8) (ev_calG C__law_due hgd (by decide) hr (by rfl) (ea_cons (ev_name (pv 4)) (ea_cons (ev_name (pv 7)) ea_nil))) (nomark _)) (ew_or1 (et_cmpO2 (op_NeP hu64) og_ne (ev_toldC (k := 8) W__law_told LM rfl (by rfl) O__law_told (hr.mono (by decide)) (lamS_by (show lamSB (defScope s_law) _ = true by decide +kernel)) (fun A outer s H E f c' hg2 hr2 tk2 => (ev_metXK MTK_Machine_play rfl tk2 (by decide) hr2 (ev_name (pv 5)) (ek_cons (ev_callTy call_tuple_of cg_tuple (by rfl) T.n_tuple (by decide +kernel) (ea_cons (ev_name (pv 7)) ea_nil)) ek_nil)))) (pv 8) (nomark _)))))
 (es_one (es_ret ev_bl))
 es_nil)
 (es_cons (es_expr (ev_ownM rfl om_append (pe_bm PySem.F.plainAttrs_list PySem.F.slot_list_append PySem.F.type_list_append mt_append (pv 8) (ea_cons ev_non ea_nil))))
 (es_cons (es_set (hng 9 (by decide)) (ps_set (i := 9) sc_law.nd rfl (.inl rfl) (ev_cal C__law_take (by decide) hr (by rfl) (ea_cons (ev_name (pv 1)) (ea_cons (ev_op op_addD og_add (ev_callO call_lenA cg_len (by rfl) T.n_len (by decide +kernel) (pv 7)) ev_int) ea_nil)))))
 (es_cons (es_set (hng 10 (by decide)) (ps_set (i := 10) sc_law.nd rfl (.inl rfl) (ev_lst (ea_cons ev_non (ea_cons ev_int (ea_cons (ev_tup ea_nil) (ea_cons (ev_tup (ea_cons ev_str ea_nil)) (ea_cons (ev_lst (ea_cons ev_str (ea_cons (ev_ix (ix_all hu65) og_ix (ev_name (pv 3)) ev_int (fun _ _ => rfl)) ea_nil))) (ea_cons (ev_tup (ea_cons ev_str (ea_cons ev_str ea_nil))) (ea_cons (ev_tup (ea_cons ev_str (ea_cons (ev_ix (ix_all hu65) og_ix (ev_name (pv 3)) ev_int (fun _ _ => rfl)) ea_nil))) (ea_cons ev_str (ea_cons ev_bl ea_nil))))))))))))
 (es_cons (es_set (hng 10 (by decide)) (ps_set (i := 10) sc_law.nd rfl (.inl rfl) (ev_op op_addD og_add (ev_name (pv 10)) (ev_lst (ea_cons (ev_tup (ea_cons ev_str (ea_cons (ev_ix (ix_all hu65) og_ix (ev_name (pv 3)) ev_int (fun _ _ => rfl)) ea_nil))) (ea_cons (ev_tup (ea_cons ev_str (ea_cons (ev_ix (ix_all hu65) og_ix (ev_name (pv 3)) ev_neg (fun _ _ => rfl)) ea_nil))) (ea_cons (ev_tup (ea_cons ev_str (ea_cons (ev_ix (ix_all hu65) og_ix (ev_name (pv 3)) ev_int (fun _ _ => rfl)) (ea_cons ev_int ea_nil)))) (ea_cons ev_dict0 (ea_cons (ev_tup (ea_cons ev_str (ea_cons ev_non ea_nil))) ea_nil)))))))))
 (es_cons (es_set (hng 11 (by decide)) (ps_set (i := 11) sc_law.nd rfl (.inr rfl) (ev_op op_addD og_add (ev_op op_addD og_add (ev_sl rfl (ev_name (pv 7)) eo_none (eo_some (ev_name (pv 9)))) (ev_lst (ea_cons (ev_cal C__law_pick (by decide) hr (by rfl) (ea_cons (ev_name (pv 1)) (ea_cons (ev_name (pv 10)) ea_nil))) ea_nil))) (ev_sl rfl (ev_name (pv 7)) (eo_some (ev_name (pv 9))) eo_none))))
 (es_cons (es_set (hng 12 (by decide)) (ps_set (i := 12) sc_law.nd rfl (.inl rfl) (ev_calG C__law_due hgd (by decide) hr (by rfl) (ea_cons (ev_name (pv 4)) (ea_cons (ev_name (pv 11)) ea_nil)))))
 (es_cons (es_if (et_cmp (op_NeP hu64) og_ne (ev_callB (call_reprA hgd hr) cg_repr (by rfl) T.n_repr (by decide +kernel) (ea_cons (ev_toldC (k := 8) W__law_told LM rfl (by rfl) O__law_told (hr.mono (by decide)) (lamS_by (show lamSB (defScope s_law) _ = true by decide +kernel)) (fun A outer s H E f c' hg2 hr2 tk2 => (ev_metX MT_Machine_play tk2 (by decide) hr2 (ev_name (pv 5)) (ea_cons (ev_name (pv 11)) ea_nil)))) ea_nil)) (ev_callO (call_reprA hgd hr) cg_repr (by rfl) T.n_repr (by decide +kernel) (pv 12)) (nomark _))
 (es_one (es_ret ev_bl))
 es_nil)
 (es_one (es_if (et_cmp (op_NeP hu64) og_ne (ev_toldC (k := 8) W__law_told LM rfl (by rfl) O__law_told (hr.mono (by decide)) (lamS_by (show lamSB (defScope s_law) _ = true by decide +kernel)) (fun A outer s H E f c' hg2 hr2 tk2 => (ev_metX MT_Machine_play tk2 (by decide) hr2 (ev_name (pv 5)) (ea_cons (ev_cal C__law_pick (by decide) hr2 (by rfl) (ea_cons (ev_name (pv 1)) (ea_cons (ev_lst (ea_cons ev_non (ea_cons ev_int (ea_cons ev_str (ea_cons ev_dict0 (ea_cons ev_bl ea_nil)))))) ea_nil))) ea_nil)))) ev_int (nomark _))
 (es_one (es_ret ev_bl))
 es_nil)))))))))))))))))))
 (es_one (es_ret ev_bl)))) pure
end
end Kf

set_option Elab.async false
set_option linter.all false
set_option maxRecDepth 100000
set_option maxHeartbeats 2000000
namespace Kf
open PySem PySem.Spec PyProof.Rows L2 LamX NdefX
local macro_rules
  | `(tactic| infer_instance) => `(tactic| (first
  | simp only [z_seq, z_if, z_ifT, z_ifF, z_ret, z_retN, z_next, z_set, z_drop, z_par, z_asg, z_for, z_setIt, z_sitA, z_sitB, z_sitH, z_var, z_varO, z_varD, z_varM, z_varB, z_mv, z_mvO, z_mvD, z_mvM, z_mvB, z_c, z_hold, z_op, z_cons, z_nil, z_toDd, z_toDo, z_stbd, z_stbo, z_stbm, z_stbb, z_call, z_toDs, z_dsK, z_dsnil, z_dsd, z_tup, z_lst, z_tru, z_truO, z_truOl, z_truOk, z_truOd, z_tb, z_tbK, z_and, z_andT, z_andF, z_or, z_orT, z_orF, z_not, z_andV, z_andVT, z_andVF, z_orV, z_orVT, z_orVF, z_notV, z_notVb, z_ifx, z_ifxT, z_ifxF, z_chain, z_chBT, z_chBF, z_chC, z_chainV, z_chVT, z_chVF, z_isi, z_cal, z_calB, z_bnil, z_bcons, z_bown, z_resn, z_resl, z_resr, z_look, z_lookO, z_lookD, z_callO, z_opO2, z_opO1, z_ixO, z_partN, z_part, z_partK, z_sl, z_slL, z_slT, z_rev, z_revK, z_comp, z_sq, z_sqK, z_itl, z_itt, z_range, z_range2, z_enum, z_signs, z_signK, z_name, z_tupG, z_consG, z_nilG, z_yes, z_ownM, z_ownG, z_ownH, z_pairsN, z_pairsC, z_dict, z_dict0, z_hnil, z_hcons, z_hhole, z_hlast, z_rep, z_calW, z_calT, z_holdW, z_holdW0, z_varA, z_mvA, z_stbA, z_isN, z_isnN, z_isnB, z_isnI, z_isnS, z_isnL, z_isnT, z_isnD, z_isnO, z_isnOb, z_isnA, z_join, z_holdP, z_holdB, z_holdX, z_calm, z_make, z_metX, z_calX, z_xof, z_told, z_isX, z_xf, z_raise, z_raiseN, z_att, z_iSeq, z_iOf, z_iFld, isStrD, isTupD, isLstD, isBoolD, isIntD, zm_cons, zm_nil, za_cons, za_nil, zs_succ, zs_zero, zg_succ, zg_zero, zo_some, zo_none, zn_t, zn_f, zw_nil, zw_cons, zk_nil, zk_cons, zk_d, zk_n, zk_o, zq_str, decide_true, decide_false, Int.reduceBEq, Int.reduceBNe, Nat.reduceBEq, Int.reduceAdd, Int.reduceSub, Int.reduceNeg, Nat.reduceAdd, Nat.reduceSub]
  | ((with_reducible refine setK_ok ?_ ?_); (· exact rfl))
  | ((with_reducible refine calK_ok ?_ ?_); (· exact rfl))
  | with_reducible refine holdA_b ?_
  | with_reducible refine holdA_i ?_
  | with_reducible refine truK_b ?_
  | ((with_reducible refine isiK_ok ?_ ?_); (· exact rfl))
  | ((with_reducible refine trdK_ok ?_ ?_); (· exact rfl))
  | ((with_reducible refine calBK_ok ?_ ?_); (· exact rfl))
  | ((with_reducible refine tupK_ok ?_ ?_); (· exact rfl))
  | ((with_reducible refine lstK_ok ?_ ?_); (· exact rfl))
  | ((with_reducible refine parK_ok ?_ ?_ ?_); (· exact rfl); (· exact rfl))
  | ((with_reducible refine tupG_ok ?_ ?_); (· exact rfl))
  | ((with_reducible refine ownK_ok ?_ ?_); (· exact rfl))
  | with_reducible refine holdA_s ?_
  | with_reducible refine holdA_n ?_
  | with_reducible refine truK_l ?_
  | with_reducible refine truK_t ?_
  | with_reducible refine truK_i ?_
  | with_reducible refine truK_n ?_
  | ((with_reducible refine dictK_ok ?_ ?_ ?_); (· exact rfl); (· exact rfl))
  | ((with_reducible refine calTK_ok ?_ ?_ ?_ ?_); (· exact rfl); (· exact rfl); (· exact rfl))
  | ((with_reducible refine calWK_ok ?_ ?_ ?_ ?_ ?_); (· exact rfl); (· exact rfl); (· exact rfl); (· exact rfl))
  | ((with_reducible refine makeK_ok ?_ ?_); (· exact rfl))
  | ((with_reducible refine calXK_ok ?_ ?_); (· exact rfl))
  | ((with_reducible refine metA_ok ?_ ?_); (· exact rfl))
  | ((with_reducible refine metK_ok ?_ ?_); (· with_unfolding_all rfl))
  | ((with_reducible apply attK_ok); (· with_unfolding_all rfl))
  | ((with_reducible refine fldK_ok ?_ ?_ ?_); (· with_unfolding_all rfl); (· exact rfl))
  | ((with_reducible refine raiseNK_ok ?_ ?_); (· exact rfl))
  | with_reducible refine holdT_ok ?_
  | with_reducible refine zo_int ?_
  | with_reducible refine zo_eqI ?_
  | with_reducible refine zo_neI ?_
  | with_reducible refine zo_add ?_
  | with_reducible refine zo_lenL ?_
  | with_reducible refine zo_lenT ?_
  | with_reducible refine zo_lstL ?_
  | with_reducible refine zo_lstT ?_
  | with_reducible refine zo_tupL ?_
  | with_reducible refine zo_tupT ?_
  | with_reducible refine zo_min2 ?_
  | with_reducible refine zo_max2 ?_
  | with_reducible refine zo_eqS ?_
  | with_reducible refine zo_neS ?_
  | ((with_reducible apply zo_ixL); (· exact rfl))
  | ((with_reducible apply zo_ixT); (· exact rfl))))
/-! ## pure: the law -/
section
variable {d L C M BM NE FE : Addr} {K : KW}
theorem odd_nm {p : Str} (h : NmOk p) (w : Str) (hw : LowS w) (hl : w.length ≤ 100) : OddV (.tuple [.str w, .str p]) := odd_ev (e := (w, p)) hw h.low hl (by have := h.hi; show p.length ≤ 100; omega)
theorem eq_bools (bs : List Bool) : eqP (boolsD bs) (boolsD bs) = true := by
  unfold boolsD
  simp only [eqP]
  induction bs with
  | nil => rfl
  | cons b r ih => simp [eqPs, eqP, ih]
theorem dp_bools : ∀ bs : List Bool, dpDs (bs.map .bool) ≤ 1
  | [] => by simp [dpDs]
  | b :: r => by
    have := dp_bools r
    simp [dpDs, dpD]
    omega
theorem nodct_bools : ∀ bs : List Bool, nodcts (bs.map .bool) = true
  | [] => rfl
  | b :: r => by simp [nodcts, nodct, nodct_bools r]
theorem pl_bools (bs : List Bool) : plDs (bs.map .bool) = true := pl_all fun d hd => by
  obtain ⟨b, _, rfl⟩ := List.mem_map.mp hd
  rfl
theorem ne_bools {bs : List Bool} {k : Rv → Prop} (q : k (.d (.bool false))) : gNe (boolsD bs) (boolsD bs) k :=
  zo_neD ⟨⟨rfl, rfl, .inl (by simpa [boolsD, nodct] using nodct_bools bs), by have := dp_bools bs; simp only [boolsD, dpD]; omega⟩, by simpa [boolsD, plD] using pl_bools bs, by simpa [boolsD, plD] using pl_bools bs⟩ (by rw [eq_bools]; exact q)
theorem ls_bools : ∀ bs : List Bool, PyData.leavesShortAll 13 (bs.map .bool) = true
  | [] => rfl
  | b :: r => by simp [PyData.leavesShortAll, PyData.leavesShort, ls_bools r]
theorem bulk_bools : ∀ bs : List Bool, PyData.bulkAll (bs.map .bool) = bs.length
  | [] => rfl
  | b :: r => by simp [PyData.bulkAll, PyData.bulk, bulk_bools r]; omega
theorem sh_bools : ∀ bs : List Bool, PyData.showableAll (bs.map .bool) = true
  | [] => rfl
  | b :: r => by simp [PyData.showableAll, PyData.showable, sh_bools r]
theorem dep_bools : ∀ bs : List Bool, PyData.depthAll (bs.map .bool) ≤ 2
  | [] => by simp [PyData.depthAll]
  | b :: r => by
    have := dep_bools r
    simp [PyData.depthAll, PyData.depth]
    omega
theorem repr_bools {bs : List Bool} {k : Rv → Prop} (hl : bs.length ≤ 1000) (q : k (.d (.str (boolsD bs).shown))) : gRepr [boolsD bs] k :=
  zo_repr ⟨by simpa [boolsD, PyData.showable] using sh_bools bs, by have := dep_bools bs; simp only [boolsD, PyData.depth]; omega, PyData.shown_fits_bulk (B := 13) (by decide) (by decide) (by simpa [boolsD, PyData.leavesShort] using ls_bools bs) (by simp only [boolsD, PyData.bulk, bulk_bools]; omega), by simpa [boolsD, plD] using pl_bools bs⟩ q
theorem repr_nat {i : Nat} {k : Rv → Prop} (hl : i ≤ 1000) (q : k (.d (.str (PyData.int (i : Int)).shown))) : gRepr [.int (i : Int)] k := by
  have h : decide (((i : Int).natAbs).log2 < 1920) = true := by
    have := Nat.log2_le_self (i : Int).natAbs
    exact decide_eq_true (by omega)
  refine zo_repr ⟨h, by simp [PyData.depth], ?_, rfl⟩ q
  have e : noneOrIn (-1) 1001 (.int (i : Int)) = true := by
    simp only [noneOrIn, Bool.and_eq_true, decide_eq_true_eq]
    exact ⟨by omega, by omega⟩
  exact PyData.shown_fits_bulk (B := 13) (by decide) (by decide) (PyData.leavesShort_of_canLay0 13 _ (by simp [PyData.canLay0]) (intsShort_of_noneOrIn (by decide) (by decide) _ e)) (by simp [PyData.bulk])
/-- a list of values is played, what is raised is caught -/
theorem q_told {v : PyData} {ds : List PyData} {rows : List Rw} {r0 : Rw} {P : PyData} {R : Rv → EnvD → Prop} {e : Option Rv} {E : EnvD} (hN : isOkX K NE NE true) (hv : itemsD v = some ds) (hn : nN v = true) (hl : ds.length ≤ 1000) (hr : RowsIn rows) (h0 : rows[0]? = some r0) (hd : ∀ d ∈ ds, plD d = true) (k : match playR rows r0 0 ds [] with | .inl i => R (.d (.int (i : Int))) (e :: E) | .inr bs => R (.o (boolsD bs)) (e :: E)) :
    f_Machine_play NE M [.ob M (mchF P (rwsD rows)), .d v] (hold (fun r E1 => toldO 4 (t__law_told K NE) R E1 r) (e :: E)) (holdX (toldX K (fun C => C ∈ [NE]) 4 (t__law_told K NE) R) (e :: E)) := by
  refine q_play hv hn hl hr h0 hd ?_
  cases ep : playR rows r0 0 ds [] with
  | inl i =>
    rw [ep] at k
    exact ⟨List.mem_singleton.mpr rfl, told_x hN k⟩
  | inr bs =>
    rw [ep] at k
    exact told_o k
theorem q_told_no {v : PyData} {F : Flds} {R : Rv → EnvD → Prop} {e : Option Rv} {E : EnvD} (hN : isOkX K NE NE true) (hn : nN v = true) (hv : lstB v = false) (k : R (.d (.int 0)) (e :: E)) :
    f_Machine_play NE M [.ob M F, .d v] (hold (fun r E1 => toldO 4 (t__law_told K NE) R E1 r) (e :: E)) (holdX (toldX K (fun C => C ∈ [NE]) 4 (t__law_told K NE) R) (e :: E)) := by
  have h : ∀ R' : Rv → Prop, f_Machine_play NE M [.ob M F, .d v] R' (holdX (toldX K (fun C => C ∈ [NE]) 4 (t__law_told K NE) R) (e :: E)) := fun R' => by
    unfold f_Machine_play defTX t_Machine_play
    dsimp only [defT, defM, zm_cons, zm_nil, za_cons, za_nil, List.length_cons, List.length_nil, Nat.reduceAdd, Nat.reduceSub, List.replicate]
    (repeat infer_instance)
    refine q_is_list hn ?_
    (repeat infer_instance)
    rw [hv]
    (repeat infer_instance)
    refine raiseK_ok (by omega) (by omega) ?_
    exact ⟨List.mem_singleton.mpr rfl, told_x hN k⟩
  exact h _
theorem pure_law (hN : isOkX K NE NE true) (ns : List Int) (hns : ns.length ≤ 63) : t_law K M BM NE FE { nx := fun _ => False, rt := fun r _ => r = .d (.bool true) } (some (.d (.list (ns.map .int))) :: some (.m (drC d L C)) :: List.replicate 11 none) := by
  unfold t_law
  dsimp only [defT, defM, zm_cons, zm_nil, za_cons, za_nil, List.length_cons, List.length_nil, Nat.reduceAdd, Nat.reduceSub, List.replicate]
  (repeat infer_instance)
  refine rangeK_int (by split <;> omega) (by split <;> (try split) <;> simp <;> omega) ?_
  refine for_nat (fun i E => ∃ a2 a3 a4 a5 a6 a7 a8 a9 a10 a11 a12 : Option Rv, E = [some (.d (.list (ns.map .int))), some (.m (drC d L C)), a2, a3, a4, a5, a6, a7, a8, a9, a10, a11, a12]) ⟨_, _, _, _, _, _, _, _, _, _, _, rfl⟩ (fun i hi E hE N hN2 => ?_) (fun E hE => ?_)
  · obtain ⟨a2, a3, a4, a5, a6, a7, a8, a9, a10, a11, a12, rfl⟩ := hE
    (repeat infer_instance)
    refine q_engine (most := 5) (by omega) (by omega) fun ps rs hE => ?_
    obtain ⟨r0, hr0⟩ : ∃ r0, rs[0]? = some r0 := ⟨_, List.getElem?_eq_getElem (by have := hE.rlo; omega)⟩
    (repeat infer_instance)
    refine q_machine (ps := ps) rfl (pl_strsD ps) hE.fit1 (EngOk.pl2 rs) hE.fit2 hE.names hE.rows ?_
    (repeat infer_instance)
    refine rangeK_ok (m := 4) (by omega) ?_
    refine for_nat (fun _ E => ∃ a2 a6 a7 a8 a9 a10 a11 a12 : Option Rv, E = [some (.d (.list (ns.map .int))), some (.m (drC d L C)), a2, some (.d (strsD ps)), some (.d (rwsD rs)), some (.ob M (mchF (strsD ps) (rwsD rs))), a6, a7, a8, a9, a10, a11, a12]) ⟨_, _, _, _, _, _, _, _, rfl⟩ (fun j hj E hE3 N3 hN3 => ?_) (fun E hE3 => ?_)
    · obtain ⟨a2, a6, a7, a8, a9, a10, a11, a12, rfl⟩ := hE3
      (repeat infer_instance)
      refine q_story hE hr0 fun es hel hev hpl => ?_
      obtain ⟨bs, hbs⟩ := hpl
      have hbl := playR_len (rows := rs) (ds := es.map evD) (r := r0) (i := 0) (acc := [])
      rw [hbs] at hbl
      simp at hbl
      have hodd : ∀ e ∈ es, OddV (evD e) := fun e he => by
        obtain ⟨h1, h2⟩ := hev e he
        refine odd_nm (hE.nm _ h2) e.1 ?_ ?_
        · rcases h1 with q | q <;> rw [q]
          · exact low_fail
          · exact low_mend
        · rcases h1 with q | q <;> rw [q] <;> decide
      have hoddL : ∀ d ∈ es.map evD, OddV d := fun d hd => by
        obtain ⟨e, he, rfl⟩ := List.mem_map.mp hd
        exact hodd e he
      (repeat infer_instance)
      refine q_told hN rfl rfl (by simp; omega) hE.inn hr0 (fun d hd => (hoddL d hd).pl) ?_
      rw [hbs]
      (repeat infer_instance)
      refine q_due rfl (by simp; omega) hE.inn hE.low hr0 hoddL ?_
      rw [hbs]
      (repeat infer_instance)
      refine ne_bools ?_
      (repeat infer_instance)
      refine q_told hN rfl rfl (by simp; omega) hE.inn hr0 (fun d hd => (hoddL d hd).pl) ?_
      rw [hbs]
      (repeat infer_instance)
      refine ne_bools ?_
      (repeat infer_instance)
      simp only [boolsD]
      (repeat infer_instance)
      refine zo_app (by simp; omega) ?_
      (repeat infer_instance)
      refine take_nat (by omega) (by simp; omega) fun sp hsp => ?_
      obtain ⟨p0, hp0⟩ : ∃ p0, ps[0]? = some p0 := ⟨_, List.getElem?_eq_getElem (by have := hE.lo; omega)⟩
      obtain ⟨pn, hpn, hpm⟩ : ∃ pn, atI (ps.map PyData.str) (-1) = some (.str pn) ∧ pn ∈ ps := by
        have hlo := hE.lo
        have hi : ps.length - 1 < ps.length := by omega
        refine ⟨ps[ps.length - 1], ?_, List.getElem_mem hi⟩
        have e : ixN (ps.map PyData.str).length (-1) = some (ps.length - 1) := by
          unfold ixN
          simp only [List.length_map]
          rw [if_neg (by omega), if_pos (by omega)]
          congr 1
          omega
        unfold atI
        rw [e]
        simp [hi]
      have n0 := hE.nm p0 (List.mem_of_getElem? hp0)
      have nn := hE.nm pn hpm
      have ix0 : ∀ {k : Rv → Prop}, k (.d (.str p0)) → gIx (strsD ps) (.int 0) k := fun {k} q => zo_ixTn (m := 0) (x := .str p0) (by rw [List.getElem?_map, hp0]; rfl) q
      have ixn : ∀ {k : Rv → Prop}, k (.d (.str pn)) → gIx (strsD ps) (.int (-1)) k := fun {k} q => zo_ixT hpn q
      (repeat infer_instance)
      refine ix0 ?_
      (repeat infer_instance)
      refine ix0 ?_
      (repeat infer_instance)
      refine ix0 ?_
      (repeat infer_instance)
      refine ixn ?_
      (repeat infer_instance)
      refine ix0 ?_
      (repeat infer_instance)
      refine zo_addL (by simp) ?_
      (repeat infer_instance)
      refine pick_seq rfl (by simp) (by simp) fun x hx => ?_
      have hxo : OddV x := by
        simp only [List.cons_append, List.nil_append, List.mem_cons, List.not_mem_nil, or_false] at hx
        rcases hx with rfl | rfl | rfl | rfl | rfl | rfl | rfl | rfl | rfl | rfl | rfl | rfl | rfl | rfl
        all_goals first
          | exact odd_none
          | exact odd_five
          | exact odd_emp
          | exact odd_one
          | exact odd_list n0.low (by have := n0.hi; omega)
          | exact odd_ev (e := ("fail", "nobody")) low_fail low_nobody (by decide) (by decide)
          | exact odd_nm n0 "wait" low_wait (by decide)
          | exact odd_fail
          | exact odd_true
          | exact odd_nm n0 "mend" low_mend (by decide)
          | exact odd_nm nn "fail" low_fail (by decide)
          | exact odd_three n0.low (by have := n0.hi; omega)
          | exact odd_dict
          | exact odd_fnone
      (repeat infer_instance)
      rw [cut_upto]
      refine zo_addL (by simp; omega) ?_
      (repeat infer_instance)
      rw [cut_onto]
      refine zo_addL (by simp; omega) ?_
      have hbl2 : (List.take sp (es.map evD) ++ [x] ++ List.drop sp (es.map evD)).length ≤ 100 := by simp; omega
      have hbo : ∀ d ∈ List.take sp (es.map evD) ++ [x] ++ List.drop sp (es.map evD), OddV d := fun d hd => by
        rcases List.mem_append.mp hd with hd | hd
        · rcases List.mem_append.mp hd with hd | hd
          · exact hoddL d (List.mem_of_mem_take hd)
          · rw [List.mem_singleton.mp hd]
            exact hxo
        · exact hoddL d (List.mem_of_mem_drop hd)
      generalize hbad : List.take sp (es.map evD) ++ [x] ++ List.drop sp (es.map evD) = bad at hbl2 hbo
      have hpl2 := playR_len (rows := rs) (ds := bad) (r := r0) (i := 0) (acc := [])
      (repeat infer_instance)
      cases ep : playR rs r0 0 bad [] with
      | inl q =>
        rw [ep] at hpl2
        refine q_due rfl (by omega) hE.inn hE.low hr0 hbo ?_
        rw [ep]
        (repeat infer_instance)
        refine q_told hN rfl rfl (by omega) hE.inn hr0 (fun d hd => (hbo d hd).pl) ?_
        rw [ep]
        (repeat infer_instance)
        refine repr_nat (by omega) ?_
        (repeat infer_instance)
        refine repr_nat (by omega) ?_
        (repeat infer_instance)
        refine pick_seq rfl (by simp) (by simp) fun y hy => ?_
        have hyn : nN y = true ∧ lstB y = false := by
          simp only [List.mem_cons, List.not_mem_nil, or_false] at hy
          rcases hy with rfl | rfl | rfl | rfl | rfl <;> exact ⟨rfl, rfl⟩
        (repeat infer_instance)
        refine q_told_no hN hyn.1 hyn.2 ?_
        (repeat infer_instance)
        exact hN3 _ ⟨_, _, _, _, _, _, _, _, rfl⟩
      | inr bs2 =>
        rw [ep] at hpl2
        refine q_due rfl (by omega) hE.inn hE.low hr0 hbo ?_
        rw [ep]
        (repeat infer_instance)
        refine q_told hN rfl rfl (by omega) hE.inn hr0 (fun d hd => (hbo d hd).pl) ?_
        rw [ep]
        (repeat infer_instance)
        refine repr_bools (by simp at hpl2; omega) ?_
        (repeat infer_instance)
        refine repr_bools (by simp at hpl2; omega) ?_
        (repeat infer_instance)
        refine pick_seq rfl (by simp) (by simp) fun y hy => ?_
        have hyn : nN y = true ∧ lstB y = false := by
          simp only [List.mem_cons, List.not_mem_nil, or_false] at hy
          rcases hy with rfl | rfl | rfl | rfl | rfl <;> exact ⟨rfl, rfl⟩
        (repeat infer_instance)
        refine q_told_no hN hyn.1 hyn.2 ?_
        (repeat infer_instance)
        exact hN3 _ ⟨_, _, _, _, _, _, _, _, rfl⟩
    · obtain ⟨a2, a6, a7, a8, a9, a10, a11, a12, rfl⟩ := hE3
      exact hN2 _ ⟨_, _, _, _, _, _, _, _, _, _, _, rfl⟩
  · obtain ⟨a2, a3, a4, a5, a6, a7, a8, a9, a10, a11, a12, rfl⟩ := hE
    (repeat infer_instance)
end
end Kf

set_option Elab.async false
set_option linter.all false
set_option maxRecDepth 100000
set_option maxHeartbeats 2000000
namespace Kf
open PySem PySem.Spec PyProof.Rows L2 LamX NdefX TL
structure NoEventAt (P : Program) (K : PySem.W.Frag) (NE : Addr) : Prop where
  ex : ∃ fI cc cda fd, OexC K NE ∧ PySem.W.findIn K (.ref NE) "__init__" = some (some (.ref fI)) ∧ PySem.W.typeIn K (.ref fI) = some (.type "function") ∧ (∀ mg : Str → Option Value, mg "super" = none → FtC P K mg NE cc cda) ∧
    (∃ (oc : Value) (od : Option Addr) (kV doc pm : Value) (an : Option Addr) (ct : Value) (osl : Array (Option Value)), fd = PySem.W.fnX "__init__" "NoEvent.__init__" (defArgs s_NoEvent___init__) (defBody s_NoEvent___init__) (defScope s_NoEvent___init__) [("__class__", cc)] .none kV doc pm an (.ref cda) ct ∧ K.lookup fI = some ⟨oc, od, .func fd, osl⟩) ∧ PySem.W.codeIn K (.ref cda) "NoEvent.__init__" = true
  xf : XfC K NE
  no : PySem.W.findIn K (.ref NE) "index" = some none
  exm : PySem.W.exmOne K (.ref NE) (.ref NE) = some true
theorem NoEventAt.of {P : Program} {K : PySem.W.Frag} {NE fI cc cda : Addr} {nm q : Str} {N : Addr} {bs bm : List Value} {sn : List Str} {sub : List Value} {ab : Bool} {col : Option Bool} {dd : Option Addr} {k0 k1 k2 k3 k5 : Option Value} {oc kV doc pm ct cl ccl : Value} {od an cld cdd : Option Addr} {osl csl ccs : Array (Option Value)} {vs : Array Value} {file : Str} {tf : Tok} {cd : ClassData}
    (xL : K.lookup NE = some (excClassObj nm q NE N bs bm true sn sub ab col dd k0 k1 k2 k3 k5 "ValueError.__new__")) (hbm : PySem.HandSPX.refsVE bm = true) (sa : PySem.W.findIn K (.ref NE) "__setattr__" = some (some (.builtin "object.__setattr__"))) (exC : PySem.W.subIn K (.ref NE) (.type "BaseException") = some true) (tyC : PySem.W.typeIn K (.ref NE) = some (.type "type")) (kC : PySem.W.keepIn K (.ref NE) = true)
    (iC : PySem.W.findIn K (.ref NE) "__init__" = some (some (.ref fI))) (tI : PySem.W.typeIn K (.ref fI) = some (.type "function"))
    (lk : K.lookup fI = some ⟨oc, od, .func (PySem.W.fnX "__init__" "NoEvent.__init__" (defArgs s_NoEvent___init__) (defBody s_NoEvent___init__) (defScope s_NoEvent___init__) [("__class__", cc)] .none kV doc pm an (.ref cda) ct), osl⟩) (cell : K.lookup cc = some ⟨cl, cld, .cell (some (.ref NE)), csl⟩) (code : K.lookup cda = some ⟨ccl, cdd, .fields vs, ccs⟩) (vs2 : vs[2]? = some (.str file tf)) (fl : ((P.main.file : Str) == file) = true)
    (cls : PySem.W.clsIn K NE = some cd) (al : PySem.W.alongIn K "__init__" ((cd.mro.dropWhile (· != .ref NE)).drop 1) = some (some (.builtin "ValueError.__init__"))) (sub1 : PySem.W.mroIn K NE (.ref NE) = some true) (ve : PySem.W.mroIn K NE (.type "ValueError") = some true) (op : PySem.W.nsIn K PySem.cStatics "thirdparty.any" = some none) (top : (P.main.scope.names.lookup ("super" : Str)).isSome = false)
    (hcd : PySem.W.codeIn K (.ref cda) "NoEvent.__init__" = true) (ga : PySem.W.findIn K (.ref NE) "__getattribute__" = some (some (.builtin "BaseException.__getattribute__"))) (gg : PySem.W.findIn K (.ref NE) "__getattr__" = some none) (hd : PySem.W.hasDictIn K NE = true) (no : PySem.W.findIn K (.ref NE) "index" = some none) (exm : PySem.W.exmOne K (.ref NE) (.ref NE) = some true) : NoEventAt P K NE :=
  ⟨⟨fI, cc, cda, _, ⟨⟨nm, q, N, bs, bm, sn, sub, ab, col, dd, k0, k1, k2, k3, k5, xL, hbm⟩, sa, exC, tyC, kC⟩, iC, tI, fun mg hs => ⟨⟨⟨nm, q, N, bs, bm, sn, sub, ab, col, dd, k0, k1, k2, k3, k5, xL, hbm⟩, sa, exC, tyC, kC⟩, ⟨cl, cld, csl, cell⟩, ⟨ccl, cdd, vs, ccs, file, tf, code, vs2, fl⟩, ⟨cd, cls, al⟩, sub1, ve, op, hs, top⟩, ⟨oc, od, kV, doc, pm, an, ct, osl, rfl, lk⟩, hcd⟩, ⟨ga, gg, exC, hd⟩, no, exm⟩
theorem NoEventAt.mk' {P : Program} {w : World} {K : PySem.W.Frag} {mg : Str → Option Value} {base : Heap} {NE : Addr} (h : NoEventAt P K NE) (hm : mg "NoEvent" = some (.ref NE)) (hs : mg "super" = none) : FtMk P w K mg base 1 "NoEvent" NE "index" := by
  obtain ⟨fI, cc, cda, fd, T, iC, tI, ft, ⟨oc, od, kV, doc, pm, an, ct, osl, rfl, lk⟩, hcd⟩ := h.ex
  refine ⟨fI, _, T, iC, tI, hm, ?_, fault_ok2 (k := 0) (c := "no event that is possible at index ") (f := "index") lk hcd (nscope_by (by decide +kernel)) (ft mg hs) (by decide +kernel) rfl rfl h.no (by decide +kernel) (by decide) (by decide) (fun env => ⟨_, rfl⟩)⟩
  exact .all fun us hl => match us, hl with | [_, _], _ => rfl
end Kf

set_option Elab.async false
set_option linter.all false
set_option maxRecDepth 100000
set_option maxHeartbeats 2000000
namespace Kf
open PySem PySem.Spec PyProof.Rows L2 LamX NdefX TL
def nmL : Nat → Nat → Str := fun _ _ => "law.<locals>.<lambda>"
theorem give_mk {l : PySem.W.OpenLaw} {w : World} {K : PySem.W.Frag} {h : Heap} {mg : Str → Option Value} {fa a_Machine a_NoEvent a_BadMachine a_FaultError cL PL : Addr} {ts : List Addr}
    (X : K.In h) (G : h.Ns mainGlobals mg) (hfa : mg "law" = some (.ref fa)) (hts : ∀ P ∈ ts, h.get? P = some { cls := .none, data := .fields #[] }) (hL : PL ∈ ts) 
    (ns_NoEvent : PySem.W.nsIn K mainGlobals "NoEvent" = some (some (.ref a_NoEvent)))
    (er_NoEvent : NoEventAt l.prog K a_NoEvent)
    (ns_BadMachine : PySem.W.nsIn K mainGlobals "BadMachine" = some (some (.ref a_BadMachine)))
    (er_BadMachine : ErrN K a_BadMachine)
    (ns_FaultError : PySem.W.nsIn K mainGlobals "FaultError" = some (some (.ref a_FaultError)))
    (is_NoEvent_NoEvent : IsC K a_NoEvent a_NoEvent true)
    (xm_NoEvent_FaultError : PySem.W.exmOne K (.ref a_NoEvent) (.ref a_FaultError) = some true)
    (z_super : PySem.W.nsIn K mainGlobals "super" = some none)
    (d__law_take : DefAt K "_law_take" s__law_take)
    (d__law_begin : DefAt K "_law_begin" s__law_begin)
    (d_is_name : DefAt K "is_name" s_is_name)
    (d_is_integer : DefAt K "is_integer" s_is_integer)
    (d_is_list : DefAt K "is_list" s_is_list)
    (d_is_event : DefAt K "is_event" s_is_event)
    (d_are_ascending : DefAt K "are_ascending" s_are_ascending)
    (d_are_names : DefAt K "are_names" s_are_names)
    (d_is_step : DefAt K "is_step" s_is_step)
    (d_is_row : DefAt K "is_row" s_is_row)
    (d_are_rows : DefAt K "are_rows" s_are_rows)
    (d__law_pick : DefAt K "_law_pick" s__law_pick)
    (d__law_due : DefAt K "_law_due" s__law_due)
    (d__law_story : DefAt K "_law_story" s__law_story)
    (d__law_words : DefAt K "_law_words" s__law_words)
    (d__law_engine : DefAt K "_law_engine" s__law_engine)
    (d__law_told : DefAt K "_law_told" s__law_told)
    (l_law : LmdAt K "law" s_law cL PL)
    (ns_Machine : PySem.W.nsIn K mainGlobals "Machine" = some (some (.ref a_Machine)))
    (pg_Machine : PySem.W.plainGet K a_Machine Str.empty = true)
    (hd_Machine : PySem.W.hasDictIn K a_Machine = true)
    (po_Machine : PySem.W.plainOver K a_Machine = true)
    (sa_Machine : PySem.W.findIn K (.ref a_Machine) "__setattr__" = some (some (.builtin "object.__setattr__")))
    (n_Machine__parts : PySem.W.findIn K (.ref a_Machine) "_parts" = some none)
    (n_Machine__rows : PySem.W.findIn K (.ref a_Machine) "_rows" = some none)
    (m_Machine_play : MetAt K a_Machine "play" "Machine.play" s_Machine_play)
    (i_Machine : InitAt K a_Machine "Machine.__init__" s_Machine___init__)
    (z_isinstance : PySem.W.nsIn K mainGlobals "isinstance" = some none)
    (z_str : PySem.W.nsIn K mainGlobals "str" = some none)
    (z_int : PySem.W.nsIn K mainGlobals "int" = some none)
    (z_bool : PySem.W.nsIn K mainGlobals "bool" = some none)
    (z_list : PySem.W.nsIn K mainGlobals "list" = some none)
    (z_tuple : PySem.W.nsIn K mainGlobals "tuple" = some none)
    (z_dict : PySem.W.nsIn K mainGlobals "dict" = some none)
    (z_len : PySem.W.nsIn K mainGlobals "len" = some none)
    (z_all : PySem.W.nsIn K mainGlobals "all" = some none)
    (z_any : PySem.W.nsIn K mainGlobals "any" = some none)
    (z_range : PySem.W.nsIn K mainGlobals "range" = some none)
    (z_abs : PySem.W.nsIn K mainGlobals "abs" = some none)
    (z_divmod : PySem.W.nsIn K mainGlobals "divmod" = some none)
    (z_min : PySem.W.nsIn K mainGlobals "min" = some none)
    (z_repr : PySem.W.nsIn K mainGlobals "repr" = some none)
    (z_sorted : PySem.W.nsIn K mainGlobals "sorted" = some none)
    (z_enumerate : PySem.W.nsIn K mainGlobals "enumerate" = some none)
    (z_zip : PySem.W.nsIn K mainGlobals "zip" = some none)
    (z_set : PySem.W.nsIn K mainGlobals "set" = some none)
    (z_max : PySem.W.nsIn K mainGlobals "max" = some none)
    (z_sum : PySem.W.nsIn K mainGlobals "sum" = some none)
    (z_reversed : PySem.W.nsIn K mainGlobals "reversed" = some none)
    (v_LETTERS : ∃ u, PySem.W.nsIn K mainGlobals "LETTERS" = some (some u) ∧ RelV (.str "abcdefghijklmnopqrstuvwxyz") u)
    (v_MOST_LETTERS : ∃ u, PySem.W.nsIn K mainGlobals "MOST_LETTERS" = some (some u) ∧ RelV (.int 6) u)
    (v_MOST_PARTS : ∃ u, PySem.W.nsIn K mainGlobals "MOST_PARTS" = some (some u) ∧ RelV (.int 8) u) :
    GiveG l w K 12 63 "script" mg fa h := by
  obtain ⟨fo, fdo, ao, kpo, Fo, _⟩ := l_law.ex
  have e := hfa.symm.trans (PySem.W.mg_of X G ao)
  cases e
  have Fo0 := Fo
  obtain ⟨oco, odo, kVo, dco, pmo, ano, cto, slo, rfl, lo, co⟩ := Fo.ex
  have T : Nm mg := ⟨PySem.W.mg_none_of X G z_isinstance, PySem.W.mg_none_of X G z_str, PySem.W.mg_none_of X G z_int, PySem.W.mg_none_of X G z_bool, PySem.W.mg_none_of X G z_list, PySem.W.mg_none_of X G z_tuple, PySem.W.mg_none_of X G z_dict, PySem.W.mg_none_of X G z_len, PySem.W.mg_none_of X G z_all, PySem.W.mg_none_of X G z_any, PySem.W.mg_none_of X G z_range, PySem.W.mg_none_of X G z_abs, PySem.W.mg_none_of X G z_divmod, PySem.W.mg_none_of X G z_min, PySem.W.mg_none_of X G z_repr, PySem.W.mg_none_of X G z_sorted, PySem.W.mg_none_of X G z_enumerate, PySem.W.mg_none_of X G z_zip, PySem.W.mg_none_of X G z_set, PySem.W.mg_none_of X G z_max, PySem.W.mg_none_of X G z_sum, PySem.W.mg_none_of X G z_reversed⟩
  have gc : ∀ {x : Str} {v : V}, (∃ u, PySem.W.nsIn K mainGlobals x = some (some u) ∧ RelV v u) → GC mg x v := fun ⟨u, a, r⟩ => ⟨u, PySem.W.mg_of X G a, r⟩
  have c_LETTERS := gc v_LETTERS
  have c_MOST_LETTERS := gc v_MOST_LETTERS
  have c_MOST_PARTS := gc v_MOST_PARTS
  have A_Machine : Cls K a_Machine := ⟨pg_Machine, hd_Machine, po_Machine, sa_Machine⟩
  have N_Machine__parts : NoAttr K a_Machine "_parts" := n_Machine__parts
  have N_Machine__rows : NoAttr K a_Machine "_rows" := n_Machine__rows
  have G_NoEvent := PySem.W.mg_of X G ns_NoEvent
  have G_BadMachine := PySem.W.mg_of X G ns_BadMachine
  have G_FaultError := PySem.W.mg_of X G ns_FaultError
  have M_BadMachine : FtN K mg "BadMachine" a_BadMachine := er_BadMachine.ftn G_BadMachine
  refine ⟨PySem.W.fnOf "law" "law" (defArgs s_law) (defBody s_law) (defScope s_law) .none kVo dco pmo ano (.ref cL) cto, [(cL, PL)], spLaw K [(PL, nmL)], fun q hq => ?_, fun st u => .of_eq rfl, fun base gb inb tb => ?_, fun H a ns hs hl ht => ⟨a, ns, rfl, hs, hl, ?_, fun _ => rfl⟩⟩
  · cases List.mem_singleton.mp hq
    exact ⟨PySem.W.codeHd_of_K X l_law.th, hts _ hL, l_law.tn⟩
  · have TL := tb (cL, PL) (by simp)
    obtain ⟨T0, eT⟩ : ∃ T0 : List NTab, T0 = [(PL, nmL)] := ⟨_, rfl⟩
    rw [← eT]
    have inL : (PL, nmL) ∈ T0 := by rw [eT]; simp
    have un : ∀ {P : Addr} {nm : Nat → Nat → Str}, (P, nm) ∈ T0 → ∀ p ∈ T0, p.1 = P → p.2 = nm := by
      intro P nm hm p hp e
      rw [eT] at hm hp
      simp only [List.mem_cons, List.not_mem_nil, or_false, Prod.mk.injEq] at hm hp
      obtain ⟨rfl, rfl⟩ := hm
      subst hp
      rfl
    have M_NoEvent : FtMk l.prog w K mg base 1 "NoEvent" a_NoEvent "index" := er_NoEvent.mk' G_NoEvent (PySem.W.mg_none_of X G z_super)
    have C__law_take : Cal l.prog w K mg base 1 "_law_take" ["draw", "size"] (spT T0 (⟨K, l.prog, w⟩ : KW) 2 f_take) := d__law_take.cal X G (fun _ _ _ _ _ _ us hl => match us, hl with | [_, _], _ => rfl) fun f fd F => dok_take (K := ⟨K, l.prog, w⟩) (ok_take F T.n_int T.n_divmod)
    have C__law_begin : Cal l.prog w K mg base 1 "_law_begin" ["script"] (spBegin K) := d__law_begin.cal X G (fun _ _ _ _ _ _ us hl => match us, hl with | [_], _ => rfl) fun f fd F => ok_begin F T.n_abs T.n_list
    have C_is_name : Cal l.prog w K mg base 1 "is_name" ["value"] (spT T0 (⟨K, l.prog, w⟩ : KW) 1 f_is_name) := d_is_name.cal X G (fun _ _ _ _ _ _ us hl => match us, hl with | [_], _ => rfl) fun f fd F => dok_is_name (K := (⟨K, l.prog, w⟩ : KW)) F T c_LETTERS c_MOST_LETTERS
    have C_is_integer : Cal l.prog w K mg base 1 "is_integer" ["value"] (spT T0 (⟨K, l.prog, w⟩ : KW) 1 f_is_integer) := d_is_integer.cal X G (fun _ _ _ _ _ _ us hl => match us, hl with | [_], _ => rfl) fun f fd F => dok_is_integer (K := (⟨K, l.prog, w⟩ : KW)) F T
    have C_is_list : Cal l.prog w K mg base 1 "is_list" ["value"] (spT T0 (⟨K, l.prog, w⟩ : KW) 1 f_is_list) := d_is_list.cal X G (fun _ _ _ _ _ _ us hl => match us, hl with | [_], _ => rfl) fun f fd F => dok_is_list (K := (⟨K, l.prog, w⟩ : KW)) F T
    have C_is_event : Cal l.prog w K mg base 1 "is_event" ["value", "parts"] (spT T0 (⟨K, l.prog, w⟩ : KW) 2 f_is_event) := d_is_event.cal X G (fun _ _ _ _ _ _ us hl => match us, hl with | [_, _], _ => rfl) fun f fd F => dok_is_event (K := (⟨K, l.prog, w⟩ : KW)) F T
    have C_are_ascending : Cal l.prog w K mg base 1 "are_ascending" ["values"] (spT T0 (⟨K, l.prog, w⟩ : KW) 1 f_are_ascending) := d_are_ascending.cal X G (fun _ _ _ _ _ _ us hl => match us, hl with | [_], _ => rfl) fun f fd F => dok_are_ascending (K := (⟨K, l.prog, w⟩ : KW)) F T
    have C_are_names : Cal l.prog w K mg base 2 "are_names" ["value"] (spT T0 (⟨K, l.prog, w⟩ : KW) 1 f_are_names) := d_are_names.cal X G (fun _ _ _ _ _ _ us hl => match us, hl with | [_], _ => rfl) fun f fd F => dok_are_names (K := (⟨K, l.prog, w⟩ : KW)) F T c_MOST_PARTS C_are_ascending C_is_name
    have C_is_step : Cal l.prog w K mg base 2 "is_step" ["value", "parts", "many"] (spT T0 (⟨K, l.prog, w⟩ : KW) 3 f_is_step) := d_is_step.cal X G (fun _ _ _ _ _ _ us hl => match us, hl with | [_, _, _], _ => rfl) fun f fd F => dok_is_step (K := (⟨K, l.prog, w⟩ : KW)) F T C_is_integer C_is_event
    have C_is_row : Cal l.prog w K mg base 3 "is_row" ["value", "parts", "many"] (spT T0 (⟨K, l.prog, w⟩ : KW) 3 f_is_row) := d_is_row.cal X G (fun _ _ _ _ _ _ us hl => match us, hl with | [_, _, _], _ => rfl) fun f fd F => dok_is_row (K := (⟨K, l.prog, w⟩ : KW)) F T C_are_ascending C_is_step
    have C_are_rows : Cal l.prog w K mg base 4 "are_rows" ["value", "parts"] (spT T0 (⟨K, l.prog, w⟩ : KW) 2 f_are_rows) := d_are_rows.cal X G (fun _ _ _ _ _ _ us hl => match us, hl with | [_, _], _ => rfl) fun f fd F => dok_are_rows (K := (⟨K, l.prog, w⟩ : KW)) F T C_is_row
    have C__law_pick : Cal l.prog w K mg base 2 "_law_pick" ["draw", "some"] (spT T0 (⟨K, l.prog, w⟩ : KW) 2 f__law_pick) := d__law_pick.cal X G (fun _ _ _ _ _ _ us hl => match us, hl with | [_, _], _ => rfl) fun f fd F => dok__law_pick (K := (⟨K, l.prog, w⟩ : KW)) F T C__law_take
    have C__law_due : CalG l.prog w K mg base 3 "_law_due" ["lists", "story"] (spT T0 (⟨K, l.prog, w⟩ : KW) 2 f__law_due) := d__law_due.calG X G (fun _ _ _ _ _ _ us hl => match us, hl with | [_, _], _ => rfl) fun f fd F => dok__law_due (K := (⟨K, l.prog, w⟩ : KW)) F T
    have C__law_story : Cal l.prog w K mg base 3 "_law_story" ["draw", "parts", "lists"] (spT T0 (⟨K, l.prog, w⟩ : KW) 3 f__law_story) := d__law_story.cal X G (fun _ _ _ _ _ _ us hl => match us, hl with | [_, _, _], _ => rfl) fun f fd F => dok__law_story (K := (⟨K, l.prog, w⟩ : KW)) F T C__law_take C__law_pick
    have C__law_words : Cal l.prog w K mg base 3 "_law_words" ["draw", "many"] (spT T0 (⟨K, l.prog, w⟩ : KW) 2 f__law_words) := d__law_words.cal X G (fun _ _ _ _ _ _ us hl => match us, hl with | [_, _], _ => rfl) fun f fd F => dok__law_words (K := (⟨K, l.prog, w⟩ : KW)) F T C__law_pick C__law_take
    have C__law_engine : Cal l.prog w K mg base 4 "_law_engine" ["draw", "most"] (spT T0 (⟨K, l.prog, w⟩ : KW) 2 f__law_engine) := d__law_engine.cal X G (fun _ _ _ _ _ _ us hl => match us, hl with | [_, _], _ => rfl) fun f fd F => dok__law_engine (K := (⟨K, l.prog, w⟩ : KW)) F T C__law_words C__law_take C__law_pick
    have X_index : ∀ C ∈ [a_NoEvent], XfC K C ∧ PySem.W.findIn K (.ref C) "index" = some none := by
      intro C hC
      simp only [List.mem_cons, List.not_mem_nil, or_false] at hC
      rcases hC with rfl
      · exact ⟨er_NoEvent.xf, er_NoEvent.no⟩
    have MK_Machine : MkX l.prog w K mg base 5 "Machine" a_Machine ["self", "parts", "rows"] (spIni T0 (⟨K, l.prog, w⟩ : KW) a_Machine 2 (f_Machine___init__ a_Machine a_BadMachine)) := i_Machine.mkx (PySem.W.mg_of X G ns_Machine) (fun _ _ _ _ _ _ us hl => match us, hl with | [_, _, _], _ => rfl) fun f fd F => dok_Machine___init__ (K := (⟨K, l.prog, w⟩ : KW)) F T M_BadMachine A_Machine N_Machine__parts N_Machine__rows C_are_names C_are_rows
    have MT_Machine_play : MtX l.prog w K mg base 3 a_Machine "play" (spTX T0 (⟨K, l.prog, w⟩ : KW) 2 (f_Machine_play a_NoEvent a_Machine)) := m_Machine_play.mtx A_Machine (fun _ _ _ _ _ _ us hl => match us, hl with | [_, _], _ => rfl) fun f fd F => dok_Machine_play (K := (⟨K, l.prog, w⟩ : KW)) F T M_NoEvent A_Machine N_Machine__rows C_is_list
    have W__law_told : ToldC (⟨K, l.prog, w⟩ : KW) mg T0 "_law_told" "work" "found" "error" "caught" (.ref a_FaultError) (t__law_told (⟨K, l.prog, w⟩ : KW) a_NoEvent) := by
      obtain ⟨f, fd, a, F⟩ := d__law_told.ex
      obtain ⟨oc, od, kV, doc, pm, an, cdv, ct, osl, e, lk, hcd⟩ := F.ex
      subst e
      refine ⟨⟨f, defArgs s__law_told, defBody s__law_told, defScope s__law_told, .none, kV, doc, pm, cdv, ct, oc, an, od, osl, PySem.W.mg_of X G a, F.kp, lk, hcd, F.binds (fun _ _ _ _ _ _ us hl => match us, hl with | [_], _ => rfl), sc__law_told, .inl rfl, fun X2 q h1 h2 => ?_⟩⟩
      have hk : X2.K = K := congrArg KW.K h1
      rw [← h1]
      subst h2
      refine gives__law_told T G_NoEvent (by rw [hk]; exact X_index) G_FaultError
    have O__law_told : ∀ C, C ∈ [a_NoEvent] → PySem.W.exmOne K (.ref C) (.ref a_FaultError) = some true := by
      intro C hC
      simp only [List.mem_cons, List.not_mem_nil, or_false] at hC
      rcases hC with rfl
      · exact xm_NoEvent_FaultError
    have MTK_Machine_play : MtXK l.prog w K mg base 3 a_Machine "play" ["events"] (spTX T0 (⟨K, l.prog, w⟩ : KW) 2 (f_Machine_play a_NoEvent a_Machine)) := m_Machine_play.mtxk A_Machine rfl (fun _ _ _ _ _ _ us ws l1 l2 => match us, ws, l1, l2 with | [_], [_], _, _ => rfl) fun f fd F => dok_Machine_play (K := (⟨K, l.prog, w⟩ : KW)) F T M_NoEvent A_Machine N_Machine__rows C_is_list
    have LM : LmAt base mg (.ref cL) T0 "law.<locals>." := ⟨⟨cL, PL, nmL, TL, rfl, inL, fun _ _ => rfl, un inL⟩⟩
    clear un inL
    exact dok_law (K := (⟨K, l.prog, w⟩ : KW)) Fo0 LM T MK_Machine MT_Machine_play W__law_told O__law_told MTK_Machine_play C__law_engine C__law_story C__law_take C__law_due C__law_pick C__law_begin (fun ns d L C h => pure_law (is_NoEvent_NoEvent.ok (K := ⟨K, l.prog, w⟩) er_NoEvent.xf) ns h)
  · intro p hp
    cases List.mem_singleton.mp hp
    exact ⟨#[], ht (cL, PL) (List.mem_singleton.mpr rfl), (by first | exact True.intro | exact .nil | (intro y hy; cases hy) | simp [TriplesOk]), fun pos cv z => by cases z⟩
end Kf

set_option Elab.async false
set_option linter.all false
open PySem PySem.W PyProof.Rows
set_option maxRecDepth 100000 in
set_option maxHeartbeats 0 in
theorem PySem.Challenge.cw_faultorder_k21_machines_played_holds : PySem.Challenge.rw_faultorder_k21_machines_played.Holds := by
  w_on; o_law; k_head; (case hw => w_witness2)
  k_fill
  refine Kf.walkG (l := PySem.Challenge.rw_faultorder_k21_machines_played) (n := 63) (k := 12) (x := "script") rfl rfl (by decide) ⟨rfl, by decide, by decide⟩ (fun w h Y => PySem.W.km_in_of Y) ?F
  case F =>
    intro w mg fa h Y G hmg
    refine' Kf.give_mk (PySem.W.km_in_of Y) G hmg (PySem.W.km_tabs_of Y) ?hL  ?ns_NoEvent ?er_NoEvent ?ns_BadMachine ?er_BadMachine ?ns_FaultError ?is_NoEvent_NoEvent ?xm_NoEvent_FaultError ?z_super ?d__law_take ?d__law_begin ?d_is_name ?d_is_integer ?d_is_list ?d_is_event ?d_are_ascending ?d_are_names ?d_is_step ?d_is_row ?d_are_rows ?d__law_pick ?d__law_due ?d__law_story ?d__law_words ?d__law_engine ?d__law_told ?l_law ?ns_Machine ?pg_Machine ?hd_Machine ?po_Machine ?sa_Machine ?n_Machine__parts ?n_Machine__rows ?m_Machine_play ?i_Machine ?z_isinstance ?z_str ?z_int ?z_bool ?z_list ?z_tuple ?z_dict ?z_len ?z_all ?z_any ?z_range ?z_abs ?z_divmod ?z_min ?z_repr ?z_sorted ?z_enumerate ?z_zip ?z_set ?z_max ?z_sum ?z_reversed ?v_LETTERS ?v_MOST_LETTERS ?v_MOST_PARTS
    (case hL => exact List.mem_of_getElem? (i := 0) rfl)
    (case ns_NoEvent => k_is)
    (case er_NoEvent => (refine' Kf.NoEventAt.of ?xL ?hbm ?sa ?exC ?tyC ?kC ?iC ?tI ?lk ?cell ?code ?vs2 ?fl ?cls ?al ?sub1 ?ve ?op ?top ?hcd ?ga ?gg ?hd ?no ?exm; (case xL => first | k_is | kernel_rfl | exact rfl | decide); (case hbm => first | exact rfl | k_is | kernel_rfl | decide); (case sa => first | k_is | kernel_rfl | exact rfl | decide); (case exC => first | k_is | kernel_rfl | exact rfl | decide); (case tyC => first | k_is | kernel_rfl | exact rfl | decide); (case kC => first | k_is | kernel_rfl | exact rfl | decide); (case iC => first | k_is | kernel_rfl | exact rfl | decide); (case tI => first | k_is | kernel_rfl | exact rfl | decide); (case lk => first | k_is | kernel_rfl | exact rfl | decide); (case cell => first | k_is | kernel_rfl | exact rfl | decide); (case code => first | k_is | kernel_rfl | exact rfl | decide); (case vs2 => first | exact rfl | k_is | kernel_rfl | decide); (case fl => first | exact rfl | k_is | kernel_rfl | decide); (case cls => first | k_is | kernel_rfl | exact rfl | decide); (case al => first | k_is | kernel_rfl | exact rfl | decide); (case sub1 => first | k_is | kernel_rfl | exact rfl | decide); (case ve => first | k_is | kernel_rfl | exact rfl | decide); (case op => first | k_is | kernel_rfl | exact rfl | decide); (case top => first | exact rfl | k_is | kernel_rfl | decide); (case hcd => first | k_is | kernel_rfl | exact rfl | decide); (case ga => first | k_is | kernel_rfl | exact rfl | decide); (case gg => first | k_is | kernel_rfl | exact rfl | decide); (case hd => first | k_is | kernel_rfl | exact rfl | decide); (case no => first | k_is | kernel_rfl | exact rfl | decide); (case exm => first | k_is | kernel_rfl | exact rfl | decide)))
    (case ns_BadMachine => k_is)
    (case er_BadMachine => (refine' Kf.ErrN.mk ?enq ?enk ?ens ?ent; (case enq => first | k_exc | k_is | kernel_rfl); (case enk => k_is); (case ens => k_is); (case ent => k_is)))
    (case ns_FaultError => k_is)
    (case is_NoEvent_NoEvent => (refine' Kf.IsC.mk ?isa ?isn ?ist ?ism ?isk; (case isa => k_is); (case isn => k_is); (case ist => k_is); (case ism => k_is); (case isk => first | k_is | kernel_rfl | exact rfl | decide)))
    (case xm_NoEvent_FaultError => first | k_is | kernel_rfl | exact rfl | decide)
    (case z_super => k_is)
    (case d__law_take => (refine' Kf.DefAt.of ?a ?l ?c ?k; (case a => k_is); (case l => k_is); (case c => k_is); (case k => k_is)))
    (case d__law_begin => (refine' Kf.DefAt.of ?a ?l ?c ?k; (case a => k_is); (case l => k_is); (case c => k_is); (case k => k_is)))
    (case d_is_name => (refine' Kf.DefAt.of ?a ?l ?c ?k; (case a => k_is); (case l => k_is); (case c => k_is); (case k => k_is)))
    (case d_is_integer => (refine' Kf.DefAt.of ?a ?l ?c ?k; (case a => k_is); (case l => k_is); (case c => k_is); (case k => k_is)))
    (case d_is_list => (refine' Kf.DefAt.of ?a ?l ?c ?k; (case a => k_is); (case l => k_is); (case c => k_is); (case k => k_is)))
    (case d_is_event => (refine' Kf.DefAt.of ?a ?l ?c ?k; (case a => k_is); (case l => k_is); (case c => k_is); (case k => k_is)))
    (case d_are_ascending => (refine' Kf.DefAt.of ?a ?l ?c ?k; (case a => k_is); (case l => k_is); (case c => k_is); (case k => k_is)))
    (case d_are_names => (refine' Kf.DefAt.of ?a ?l ?c ?k; (case a => k_is); (case l => k_is); (case c => k_is); (case k => k_is)))
    (case d_is_step => (refine' Kf.DefAt.of ?a ?l ?c ?k; (case a => k_is); (case l => k_is); (case c => k_is); (case k => k_is)))
    (case d_is_row => (refine' Kf.DefAt.of ?a ?l ?c ?k; (case a => k_is); (case l => k_is); (case c => k_is); (case k => k_is)))
    (case d_are_rows => (refine' Kf.DefAt.of ?a ?l ?c ?k; (case a => k_is); (case l => k_is); (case c => k_is); (case k => k_is)))
    (case d__law_pick => (refine' Kf.DefAt.of ?a ?l ?c ?k; (case a => k_is); (case l => k_is); (case c => k_is); (case k => k_is)))
    (case d__law_due => (refine' Kf.DefAt.of ?a ?l ?c ?k; (case a => k_is); (case l => k_is); (case c => k_is); (case k => k_is)))
    (case d__law_story => (refine' Kf.DefAt.of ?a ?l ?c ?k; (case a => k_is); (case l => k_is); (case c => k_is); (case k => k_is)))
    (case d__law_words => (refine' Kf.DefAt.of ?a ?l ?c ?k; (case a => k_is); (case l => k_is); (case c => k_is); (case k => k_is)))
    (case d__law_engine => (refine' Kf.DefAt.of ?a ?l ?c ?k; (case a => k_is); (case l => k_is); (case c => k_is); (case k => k_is)))
    (case d__law_told => (refine' Kf.DefAt.of ?a ?l ?c ?k; (case a => k_is); (case l => k_is); (case c => k_is); (case k => k_is)))
    (case l_law => (refine' Kf.LmdAt.of ?a ?l ?e ?k ?th ?tn; (case a => k_is); (case l => k_is); (case e => k_is); (case k => k_is); (case th => kernel_rfl); (case tn => kernel_rfl)))
    (case ns_Machine => k_is)
    (case pg_Machine => k_is)
    (case hd_Machine => k_is)
    (case po_Machine => k_is)
    (case sa_Machine => k_is)
    (case n_Machine__parts => k_is)
    (case n_Machine__rows => k_is)
    (case m_Machine_play => (refine' Kf.MetAt.of ?a ?i ?l ?e ?k; (case a => k_is); (case i => k_is); (case l => k_is); (case e => k_is); (case k => k_is)))
    (case i_Machine => (refine' Kf.InitAt.of ?m ?a ?i ?kc ?l ?e ?k; (case m => k_is); (case a => k_is); (case i => k_is); (case kc => k_is); (case l => k_is); (case e => k_is); (case k => k_is)))
    (case z_isinstance => k_is)
    (case z_str => k_is)
    (case z_int => k_is)
    (case z_bool => k_is)
    (case z_list => k_is)
    (case z_tuple => k_is)
    (case z_dict => k_is)
    (case z_len => k_is)
    (case z_all => k_is)
    (case z_any => k_is)
    (case z_range => k_is)
    (case z_abs => k_is)
    (case z_divmod => k_is)
    (case z_min => k_is)
    (case z_repr => k_is)
    (case z_sorted => k_is)
    (case z_enumerate => k_is)
    (case z_zip => k_is)
    (case z_set => k_is)
    (case z_max => k_is)
    (case z_sum => k_is)
    (case z_reversed => k_is)
    (case v_LETTERS => (refine' Kf.constAt ?a ?r; (case a => k_is); (case r => exact ⟨_, rfl⟩)))
    (case v_MOST_LETTERS => (refine' Kf.constAt ?a ?r; (case a => k_is); (case r => exact ⟨_, rfl⟩)))
    (case v_MOST_PARTS => (refine' Kf.constAt ?a ?r; (case a => k_is); (case r => exact ⟨_, rfl⟩)))
#print axioms PySem.Challenge.cw_faultorder_k21_machines_played_holds

