import PyProof.Rows.All
import Wide.All
import OpenK.AllK
import Wide.FinOn
import HandS.ForMost
import HandS.Walk
import HandS.IsInst
import HandS.Conv
import HandS.Zip
import HandS.Style
import HandS.Flow
import HandS.Strs
import HandS.Wide
import HandS.TupAny
import HandS.Deep
import HandS.TupMul
import HandS.SortInts
import HandS.TupSets
import HandS.SortOrd
import HandS.SetBool
import PyProof.ReprRoads
import PyProof.Rows.RegFStrParts
import PySem.Challenge.RW_lookpast_k20_codes_and_their_number
set_option Elab.async false
set_option linter.all false
set_option maxRecDepth 100000
set_option maxHeartbeats 4000000
namespace Lp
open PySem PySem.Spec PyProof.Rows L2
/-! ### tuples that are known to have no dict of their own: held as they are -/
def Sol (H : Hp) (a : Addr) (xs : List V) : Prop := ∃ o : Obj, o.dict = none ∧ H a = some (.frz o (.tup xs))
theorem Sol.seq {K : PySem.W.Frag} {H : Hp} {a : Addr} {xs : List V} (h : Sol H a xs) : SqT K H a xs := by
  obtain ⟨o, _, e⟩ := h
  exact .inl (.inr ⟨o, e⟩)
theorem Sol.to {H H' : Hp} {a : Addr} {xs : List V} (h : Sol H a xs) (s : Same H H') : Sol H' a xs := by
  obtain ⟨o, d, e⟩ := h
  exact ⟨o, d, s _ _ e⟩
theorem Sol.there {H : Hp} {a : Addr} {xs : List V} (h : Sol H a xs) : H a ≠ none := by
  obtain ⟨o, d, e⟩ := h
  rw [e]; exact fun z => nomatch z
theorem Sol.inj {H : Hp} {a : Addr} {xs ys : List V} (h : Sol H a xs) (k : Sol H a ys) : xs = ys := by
  obtain ⟨o, d, e⟩ := h
  obtain ⟨o', d', e'⟩ := k
  rw [e] at e'
  cases e'; rfl
abbrev objT (us : List Value) : Obj := { cls := .type "tuple", data := .seq us.toArray }
section
variable {X : Cx} {pins : List (Addr × Obj)} {σ : L2.St} {H : Hp} {s : Shared}
/-- a new tuple -/
theorem laidT {xs : List V} {us : List Value} (J : Inv X pins σ H s) (rel : Vals xs us) (few : xs.length ≤ sizeLine) : Inv X pins σ (upd H s.heap.objs.size (.frz (objT us) (.tup xs))) { s with heap := s.heap.push (objT us) } := by
  refine J.laid (t' := s.toks) (fun _ _ q => Heap.get?_push_of_some _ q) (Nat.le_refl _) ⟨Heap.get?_push_size _ rfl, few, us, rel, IsTup.new _ _⟩
theorem newT {xs : List V} {us : List Value} {Q : VK} (J : Inv X pins σ H s) (rel : Vals xs us) (few : xs.length ≤ sizeLine) (q : ∀ p o, H p = none → o.dict = none → Q (.ref p) (upd H p (.frz o (.tup xs)))) : EP X pins σ Q (.ref s.heap.objs.size) { s with heap := s.heap.push (objT us) } :=
  ⟨.ref s.heap.objs.size, _, laidT J rel few, rfl, q _ _ (J.hok.fresh (Nat.le_refl _)) rfl⟩
end
section
variable {X : Cx}
/-- (a, b, ..) -/
def tTupS (t : TA) : TE := fun σ H Q => t σ H fun xs H1 => xs.length ≤ sizeLine ∧ ∀ p o, H1 p = none → o.dict = none → Q (.ref p) (upd H1 p (.frz o (.tup xs)))
theorem pe_tupS {es : List Expr} {t : TA} {k : Nat} {pos : Pos} (args : PA X es t) : PE X (.Tuple es k pos) (tTupS t) := by
  constructor
  intro pins s σ H Q J want
  refine wpAny_Tuple_spliced (thn (args.run pos pins s σ H _ J want) ?_)
  rintro us s' ⟨xs, H', J', rel, few, q⟩
  exact ⟨by rw [← rel.length]; exact few, newT J' rel few q⟩
/-- tuple(xs) -/
def rTuple (K : PySem.W.Frag) : List V → Hp → VK → Prop := fun xs H Q => ∃ p ys, xs = [.ref p] ∧ ((SqL K H p ys ∧ ∀ l o, H l = none → o.dict = none → Q (.ref l) (upd H l (.frz o (.tup ys)))) ∨ (SqT K H p ys ∧ Q (.ref p) H))
theorem call_tupleS : CallR X (.type "tuple") (rTuple X.K) := by
  rintro pins s σ H xs us Q J rel ⟨p, ys, rfl, ways⟩
  obtain ⟨u, rfl, ru⟩ := vals1 rel
  cases ru
  rcases ways with ⟨at_p, q⟩ | ⟨at_p, q⟩
  · obtain ⟨its, rv, pl, few⟩ := J.list at_p
    have many := rv.length
    refine call_tuple_list pl.isList (fun h' keep => ?_) (by simp only [List.size_toArray]; omega)
    have J' : Inv X pins σ H { s with heap := h' } := J.kept (t' := s.toks) keep
    exact newT J' rv few q
  · obtain ⟨its, rv, pl, few⟩ := J.tuple at_p
    exact call_tuple_same pl ⟨.ref p, H, J, rfl, q⟩
/-- t + u -/
def rCatS (K : PySem.W.Frag) : R2 := fun x y H Q => ∃ a b xs ys, x = .ref a ∧ y = .ref b ∧ SqT K H a xs ∧ SqT K H b ys ∧ xs.length + ys.length ≤ sizeLine ∧
  (xs = [] → Q (.ref b) H) ∧ (ys = [] → Q (.ref a) H) ∧ ∀ p o, H p = none → o.dict = none → Q (.ref p) (upd H p (.frz o (.tup (xs ++ ys))))
theorem op_catS : OpR X (binaryOp .Add) (rCatS X.K) := by
  rintro pins s σ H x y v u Q J rx ry ⟨a, b, xs, ys, rfl, rfl, at_a, at_b, few, q0, q1, q2⟩
  cases rx
  cases ry
  obtain ⟨its, r1, p1, _⟩ := J.tuple at_a
  obtain ⟨jts, r2, p2, _⟩ := J.tuple at_b
  by_cases none_ : xs = []
  · subst none_
    cases r1
    exact cat_tup0 p1 p2 ⟨.ref b, H, J, rfl, q0 rfl⟩
  · refine HT.cat_tup p1 p2 (fun z => none_ (r1.nil_iff.mp z)) (fun z => ⟨.ref a, H, J, rfl, q1 (r2.nil_iff.mp z)⟩) (fun _ => ?_) (by rw [← r1.length, ← r2.length]; exact few)
    exact newT J (r1.append r2) (by rw [List.length_append]; exact few) q2
/-- t[lo:hi] -/
def rSlS (K : PySem.W.Frag) : V → Option Int → Option Int → Hp → VK → Prop := fun x lo hi H Q => ∃ a xs, x = .ref a ∧ SqT K H a xs ∧
  (cutV xs lo hi = xs → Q (.ref a) H) ∧ ∀ p o, H p = none → o.dict = none → Q (.ref p) (upd H p (.frz o (.tup (cutV xs lo hi))))
theorem sl_tupS : SlR X (rSlS X.K) := by
  rintro pins s σ H x v vl vu lo hi sl Q J rx hs pl pu ⟨a, xs, rfl, at_a, q1, q2⟩
  by_cases whole : HT.sIx xs.length 0 lo = 0 ∧ HT.sIx xs.length xs.length hi = xs.length
  · refine sl_tupA pins s σ H _ v vl vu lo hi sl Q J rx hs pl pu ⟨a, xs, rfl, at_a, fun _ => q1 ?_, fun z => absurd whole z⟩
    unfold cutV
    rw [whole.1, whole.2, List.drop_zero, Nat.sub_zero, List.take_length]
  · cases rx
    obtain ⟨its, rv, pt, few⟩ := J.tuple at_a
    have many : its.toArray.size = xs.length := by rw [List.size_toArray]; exact rv.length.symm
    refine ⟨"tuple", _, PyProof.Rows.slot_tuple_getitem.lookup, pt.typeIs, ?_⟩
    refine HT.getItem_tuple_cut pt hs pl pu (by rw [many]; exact whole) ?_ (by rw [many]; exact few)
    rw [many]
    exact newT J ((rv.drop (HT.sIx xs.length 0 lo)).take (HT.sIx xs.length xs.length hi - HT.sIx xs.length 0 lo)) (Nat.le_trans (cutV_length xs lo hi) few) q2
end
end Lp

namespace Lp
open PySem PySem.Spec PyProof.Rows L2
/-! ### the drawing box -/
/-- the drawing box: its three numbers; c: at most so many draws so far -/
def Box (H : Hp) (b : Addr) (c : Nat) : Prop := ∃ x0 x1 x2 : Int, H b = some (.lst [.int x0, .int x1, .int x2]) ∧ 0 ≤ x0 ∧ 0 ≤ x1 ∧ x1 < 4611686018427387904 ∧ 0 ≤ x2 ∧ x2 ≤ (c : Int)
theorem Box.le {H : Hp} {b : Addr} {c d : Nat} (x : Box H b c) (h : c ≤ d) : Box H b d := by
  obtain ⟨x0, x1, x2, e, h0, h1, h2, h3, h4⟩ := x
  exact ⟨x0, x1, x2, e, h0, h1, h2, h3, by omega⟩
theorem Box.there {H : Hp} {b : Addr} {c : Nat} (x : Box H b c) : H b ≠ none := by
  obtain ⟨x0, x1, x2, e, _⟩ := x
  rw [e]; exact fun h => nomatch h
theorem Box.keep {H H' : Hp} {b : Addr} {c : Nat} (x : Box H b c) (h : H' b = H b) : Box H' b c := by
  obtain ⟨x0, x1, x2, e, r⟩ := x
  exact ⟨x0, x1, x2, h.trans e, r⟩
/-! ### data in the heap -/
mutual
inductive DV (H : Hp) : V → PyData → Prop
  | non : DV H .non .none
  | bl (b : Bool) : DV H (.bl b) (.bool b)
  | int (i : Int) : DV H (.int i) (.int i)
  | str (x : Str) : DV H (.str x) (.str x)
  | lst {a : Addr} {xs : List V} {ds : List PyData} : H a = some (.lst xs) → DVs H xs ds → DV H (.ref a) (.list ds)
  | tup {a : Addr} {xs : List V} {ds : List PyData} : Sol H a xs → DVs H xs ds → DV H (.ref a) (.tuple ds)
inductive DVs (H : Hp) : List V → List PyData → Prop
  | nil : DVs H [] []
  | cons {v : V} {vs : List V} {d : PyData} {ds : List PyData} : DV H v d → DVs H vs ds → DVs H (v :: vs) (d :: ds)
end
mutual
theorem DV.mono {H H' : Hp} (s : Same H H') : ∀ (d : PyData) (v : V), DV H v d → DV H' v d
  | .none, _, h => by cases h; exact .non
  | .bool b, _, h => by cases h; exact .bl b
  | .int i, _, h => by cases h; exact .int i
  | .str x, _, h => by cases h; exact .str x
  | .list ds, _, h => by
    cases h with
    | lst e r => exact .lst (s _ _ e) (DVs.mono s ds _ r)
  | .tuple ds, _, h => by
    cases h with
    | tup e r => exact .tup (e.to s) (DVs.mono s ds _ r)
  | .dict _, _, h => by cases h
theorem DVs.mono {H H' : Hp} (s : Same H H') : ∀ (ds : List PyData) (vs : List V), DVs H vs ds → DVs H' vs ds
  | [], _, h => by cases h; exact .nil
  | d :: ds, _, h => by
    cases h with
    | cons a r => exact .cons (DV.mono s d _ a) (DVs.mono s ds _ r)
end
mutual
theorem DV.dp {K : PySem.W.Frag} {H : Hp} : ∀ (d : PyData) (v : V), DV H v d → Dp K H v d
  | .none, _, h => by cases h; exact .non
  | .bool b, _, h => by cases h; exact .bl b
  | .int i, _, h => by cases h; exact .int i
  | .str x, _, h => by cases h; exact .str x
  | .list ds, _, h => by
    cases h with
    | lst e r => exact .lst (SqL.of e) (DVs.dp ds _ r)
  | .tuple ds, _, h => by
    cases h with
    | tup e r => exact .tup e.seq (DVs.dp ds _ r)
  | .dict _, _, h => by cases h
theorem DVs.dp {K : PySem.W.Frag} {H : Hp} : ∀ (ds : List PyData) (vs : List V), DVs H vs ds → DpAll K H vs ds
  | [], _, h => by cases h; exact .nil
  | d :: ds, _, h => by
    cases h with
    | cons a r => exact .cons (DV.dp d _ a) (DVs.dp ds _ r)
end
theorem DV.to {H H' : Hp} {v : V} {d : PyData} (h : DV H v d) (s : Same H H') : DV H' v d := DV.mono s d v h
theorem DVs.to {H H' : Hp} {v : List V} {d : List PyData} (h : DVs H v d) (s : Same H H') : DVs H' v d := DVs.mono s d v h
theorem DVs.len {H : Hp} : ∀ {vs : List V} {ds : List PyData}, DVs H vs ds → vs.length = ds.length
  | _, _, .nil => rfl
  | _, _, .cons _ r => by rw [List.length_cons, List.length_cons, r.len]
theorem DVs.get {H : Hp} : ∀ {vs : List V} {ds : List PyData} {i : Nat} {d : PyData}, DVs H vs ds → ds[i]? = some d → ∃ v, vs[i]? = some v ∧ DV H v d
  | _, _, _, _, .nil, e => by simp at e
  | _, _, 0, _, .cons a _, e => by simp at e; subst e; exact ⟨_, rfl, a⟩
  | _, _, i + 1, d, .cons _ r, e => by
    obtain ⟨v, h1, h2⟩ := DVs.get (i := i) (d := d) r (by simpa using e)
    exact ⟨v, by simpa using h1, h2⟩
theorem DVs.getV {H : Hp} : ∀ {vs : List V} {ds : List PyData} {i : Nat} {v : V}, DVs H vs ds → vs[i]? = some v → ∃ d, ds[i]? = some d ∧ DV H v d
  | _, _, _, _, .nil, e => by simp at e
  | _, _, 0, _, .cons a _, e => by simp at e; subst e; exact ⟨_, rfl, a⟩
  | _, _, i + 1, d, .cons _ r, e => by
    obtain ⟨v, h1, h2⟩ := DVs.getV (i := i) (v := d) r (by simpa using e)
    exact ⟨v, by simpa using h1, h2⟩
theorem DVs.app {H : Hp} : ∀ {vs us : List V} {ds es : List PyData}, DVs H vs ds → DVs H us es → DVs H (vs ++ us) (ds ++ es)
  | _, _, _, _, .nil, s => s
  | _, _, _, _, .cons a r, s => .cons a (r.app s)
theorem DVs.take {H : Hp} : ∀ {vs : List V} {ds : List PyData} (n : Nat), DVs H vs ds → DVs H (vs.take n) (ds.take n)
  | _, _, 0, _ => by rw [List.take_zero, List.take_zero]; exact .nil
  | _, _, _ + 1, .nil => .nil
  | _, _, n + 1, .cons a r => .cons a (r.take n)
theorem DVs.drop {H : Hp} : ∀ {vs : List V} {ds : List PyData} (n : Nat), DVs H vs ds → DVs H (vs.drop n) (ds.drop n)
  | _, _, 0, r => by rw [List.drop_zero, List.drop_zero]; exact r
  | _, _, _ + 1, .nil => .nil
  | _, _, n + 1, .cons a r => r.drop n
theorem DVs.set {H : Hp} {v : V} {d : PyData} (h : DV H v d) : ∀ {vs : List V} {ds : List PyData} (n : Nat), DVs H vs ds → DVs H (vs.set n v) (ds.set n d)
  | _, _, _, .nil => .nil
  | _, _, 0, .cons _ r => .cons h r
  | _, _, n + 1, .cons a r => .cons a (DVs.set h n r)
theorem DVs.one {H : Hp} {v : V} {d : PyData} (h : DV H v d) : DVs H [v] [d] := .cons h .nil
mutual
def imm : PyData → Bool
  | .list _ => false
  | .dict _ => false
  | .tuple ds => imms ds
  | _ => true
def imms : List PyData → Bool
  | [] => true
  | d :: ds => imm d && imms ds
end
mutual
theorem DV.imm {H H' : Hp} (s : ∀ a xs, Sol H a xs → Sol H' a xs) : ∀ (d : PyData) (v : V), imm d = true → DV H v d → DV H' v d
  | .none, _, _, h => by cases h; exact .non
  | .bool b, _, _, h => by cases h; exact .bl b
  | .int i, _, _, h => by cases h; exact .int i
  | .str x, _, _, h => by cases h; exact .str x
  | .list ds, _, i, h => by unfold Lp.imm at i; cases i
  | .tuple ds, _, i, h => by
    unfold Lp.imm at i
    cases h with
    | tup e r => exact .tup (s _ _ e) (DVs.imm s ds _ i r)
  | .dict _, _, _, h => by cases h
theorem DVs.imm {H H' : Hp} (s : ∀ a xs, Sol H a xs → Sol H' a xs) : ∀ (ds : List PyData) (vs : List V), imms ds = true → DVs H vs ds → DVs H' vs ds
  | [], _, _, h => by cases h; exact .nil
  | d :: ds, _, i, h => by
    unfold Lp.imms at i
    rw [Bool.and_eq_true] at i
    cases h with
    | cons a r => exact .cons (DV.imm s d _ i.1 a) (DVs.imm s ds _ i.2 r)
end
/-! ### views of the heap -/
theorem ne_at {H : Hp} {a p : Addr} (h : H a ≠ none) (n : H p = none) : a ≠ p := fun z => h (by rw [z]; exact n)

/-- L: what stands still; from (L, H) to (L', H'): nothing that stood still moves, what is (but the box b) stays, and what was there and not of L stays out of L -/
structure Ext (b : Option Addr) (L H L' H' : Hp) : Prop where
  ll : Same L L'
  hh : ∀ a o, H a = some o → b ≠ some a → H' a = some o
  dom : ∀ a, H a ≠ none → H' a ≠ none
  fr : ∀ a, L a = none → H a ≠ none → L' a = none
theorem Ext.refl (b : Option Addr) (L H : Hp) : Ext b L H L H := ⟨Same.refl L, fun _ _ h _ => h, fun _ h => h, fun _ h _ => h⟩
theorem Ext.trans {b : Option Addr} {L H L1 H1 L2 H2 : Hp} (x : Ext b L H L1 H1) (y : Ext b L1 H1 L2 H2) : Ext b L H L2 H2 :=
  ⟨x.ll.trans y.ll, fun a o h n => y.hh a o (x.hh a o h n) n, fun a h => y.dom a (x.dom a h), fun a h n => y.fr a (x.fr a h n) (x.dom a n)⟩
theorem Ext.free {b : Option Addr} {L H L' H' : Hp} (x : Ext b L H L' H') {a : Addr} (h : H' a = none) : H a = none := by
  cases q : H a with
  | none => rfl
  | some o => exact absurd h (x.dom a (by rw [q]; exact fun z => nomatch z))
theorem Ext.any {b : Option Addr} {L H L' H' : Hp} (x : Ext none L H L' H') : Ext b L H L' H' := ⟨x.ll, fun a o h _ => x.hh a o h (fun z => nomatch z), x.dom, x.fr⟩
theorem Same.dom {H H' : Hp} (s : Same H H') (a : Addr) (h : H a ≠ none) : H' a ≠ none := by
  cases q : H a with
  | none => exact absurd q h
  | some o => rw [s a o q]; exact fun z => nomatch z
/-- a new object that stands still -/
theorem Ext.new {b : Option Addr} {L H : Hp} {p : Addr} {o : HO} (s : Same L H) (n : H p = none) : Ext b L H (upd L p o) (upd H p o) := by
  refine ⟨fun a u h => ?_, fun a u h _ => ?_, fun a h => ?_, fun a h d => ?_⟩
  · rw [upd_ne (ne_of_none h (s.free n))]; exact h
  · rw [upd_ne (ne_of_none h n)]; exact h
  · rw [upd_ne (ne_at h n)]; exact h
  · rw [upd_ne (ne_at d n)]; exact h
/-- a new object beside -/
theorem Ext.own {b : Option Addr} {L H : Hp} {p : Addr} {o : HO} (n : H p = none) : Ext b L H L (upd H p o) := by
  refine ⟨Same.refl L, fun a u h _ => ?_, fun a h => ?_, fun a h _ => h⟩
  · rw [upd_ne (ne_of_none h n)]; exact h
  · rw [upd_ne (ne_at h n)]; exact h
theorem same_own {L H : Hp} {p : Addr} {o : HO} (s : Same L H) (n : L p = none) : Same L (upd H p o) := fun a u h => by
  rw [upd_ne (ne_of_none h n)]; exact s a u h
theorem same_both {L H : Hp} {p : Addr} {o : HO} (s : Same L H) : Same (upd L p o) (upd H p o) := fun a u h => by
  by_cases e : a = p
  · subst e; rw [upd_same] at h ⊢; exact h
  · rw [upd_ne e] at h ⊢; exact s a u h
/-- what is published -/
theorem same_pub {L H : Hp} {p : Addr} {o : HO} (s : Same L H) (e : H p = some o) : Same (upd L p o) H := fun a u h => by
  by_cases q : a = p
  · subst q; rw [upd_same] at h; rw [e]; exact h
  · rw [upd_ne q] at h; exact s a u h
theorem same_upd {L : Hp} {p : Addr} {o : HO} (n : L p = none) : Same L (upd L p o) := fun a u h => by
  rw [upd_ne (ne_of_none h n)]; exact h
/-! ### slots and values as data -/
inductive SV where
  | un | sh (d : PyData) | ow (ds : List PyData) | bx | st (S : Int → Bool) (n : Nat) | raw (v : V)
structure Env where
  s : List SV
  c : Nat
def Env.set (ε : Env) (i : Nat) (x : SV) : Env := ⟨ε.s.set i x, ε.c⟩
def Own : SV → Bool
  | .ow _ => true
  | .st _ _ => true
  | _ => false
/-- what a body knows of its caller -/
structure Zx where
  b : Option Addr
  L0 : Hp
  H0 : Hp
  P : Hp
def SlotR (w : World) (Z : Zx) (O : Addr → Prop) (L H : Hp) (o : Option V) : SV → Prop
  | .un => True
  | .sh d => ∃ v, o = some v ∧ DV L v d
  | .ow ds => ∃ a xs, o = some (.ref a) ∧ O a ∧ L a = none ∧ Z.H0 a = none ∧ H a = some (.lst xs) ∧ DVs L xs ds
  | .bx => ∃ b, Z.b = some b ∧ o = some (.ref b)
  | .st S n => ∃ a, o = some (.ref a) ∧ O a ∧ L a = none ∧ Z.H0 a = none ∧ H a = some (SetO w a S n)
  | .raw v => o = some v
structure Rep (w : World) (Z : Zx) (O : Addr → Prop) (L H : Hp) (σ : L2.St) (ε : Env) : Prop where
  lh : Same L H
  pn : Same Z.P L
  ex : Ext Z.b Z.L0 Z.H0 L H
  bo : ∀ b, Z.b = some b → L b = none ∧ Box H b ε.c ∧ Z.H0 b ≠ none
  oh : ∀ a, O a → H a ≠ none ∧ Z.H0 a = none
  len : σ.length = ε.s.length
  sl : ∀ (i : Nat) (x : SV), ε.s[i]? = some x → ∃ o, σ[i]? = some o ∧ SlotR w Z O L H o x
  di : ∀ (i j : Nat) (x y : SV) (a : Addr), i ≠ j → ε.s[i]? = some x → ε.s[j]? = some y → Own x = true → Own y = true → σ[i]? = some (some (.ref a)) → σ[j]? ≠ some (some (.ref a))
inductive R where
  | sh (d : PyData) | nw (ds : List PyData) | br (i : Nat) (ds : List PyData) | bx | raw (v : V) | sr (i : Nat) (S : Int → Bool) (n : Nat)
def VR (w : World) (Z : Zx) (O : Addr → Prop) (σ : L2.St) (Hs L H : Hp) (v : V) : R → Prop
  | .sh d => DV L v d
  | .nw ds => ∃ a xs, v = .ref a ∧ Hs a = none ∧ ¬ O a ∧ Z.H0 a = none ∧ L a = none ∧ H a = some (.lst xs) ∧ DVs L xs ds
  | .br i ds => ∃ a xs, v = .ref a ∧ σ[i]? = some (some (.ref a)) ∧ O a ∧ Z.H0 a = none ∧ L a = none ∧ H a = some (.lst xs) ∧ DVs L xs ds
  | .bx => ∃ b, Z.b = some b ∧ v = .ref b
  | .raw u => v = u
  | .sr i S n => ∃ a, v = .ref a ∧ σ[i]? = some (some (.ref a)) ∧ O a ∧ Z.H0 a = none ∧ L a = none ∧ H a = some (SetO w a S n)
/-- as VR, for what operations give: nothing of the slots -/
def VR0 (Hs L H : Hp) (v : V) : R → Prop
  | .sh d => DV L v d
  | .nw ds => ∃ a xs, v = .ref a ∧ Hs a = none ∧ L a = none ∧ H a = some (.lst xs) ∧ DVs L xs ds
  | _ => False
section
variable {w : World} {Z : Zx} {O : Addr → Prop} {σ : L2.St} {ε : Env} {Hs L H L' H' : Hp} {v : V} {r : R}
theorem Rep.nob (x : Rep w Z O L H σ ε) {a : Addr} (h : Z.H0 a = none) : Z.b ≠ some a := fun e => (x.bo a e).2.2 h
theorem VR.mono (x : VR w Z O σ Hs L H v r) (y : Rep w Z O L H σ ε) (e : Ext Z.b L H L' H') : VR w Z O σ Hs L' H' v r := by
  cases r with
  | sh d => exact DV.to x e.ll
  | nw ds =>
    obtain ⟨a, xs, rfl, h1, h2, h3, h4, h5, h6⟩ := x
    exact ⟨a, xs, rfl, h1, h2, h3, e.fr a h4 (by rw [h5]; exact fun z => nomatch z), e.hh a _ h5 (y.nob h3), h6.to e.ll⟩
  | br i ds =>
    obtain ⟨a, xs, rfl, h1, h2, h3, h4, h5, h6⟩ := x
    exact ⟨a, xs, rfl, h1, h2, h3, e.fr a h4 (by rw [h5]; exact fun z => nomatch z), e.hh a _ h5 (y.nob h3), h6.to e.ll⟩
  | bx => exact x
  | raw u => exact x
  | sr i S n =>
    obtain ⟨a, rfl, h1, h2, h3, h4, h5⟩ := x
    exact ⟨a, rfl, h1, h2, h3, e.fr a h4 (by rw [h5]; exact fun z => nomatch z), e.hh a _ h5 (y.nob h3)⟩
theorem VR.back (x : VR w Z O σ Hs L H v r) {Hr Lr : Hp} (e : Ext Z.b Lr Hr L' Hs) : VR w Z O σ Hr L H v r := by
  cases r with
  | nw ds =>
    obtain ⟨a, xs, rfl, h1, h2, h3, h4, h5, h6⟩ := x
    exact ⟨a, xs, rfl, e.free h1, h2, h3, h4, h5, h6⟩
  | _ => exact x
theorem VR0.vr (x : VR0 Hs L H v r) (y : Rep w Z O L' Hs σ ε) : VR w Z O σ Hs L H v r := by
  cases r with
  | sh d => exact x
  | nw ds =>
    obtain ⟨a, xs, rfl, h1, h4, h5, h6⟩ := x
    exact ⟨a, xs, rfl, h1, fun o => (y.oh a o).1 h1, y.ex.free h1, h4, h5, h6⟩
  | br i ds => exact x.elim
  | bx => exact x.elim
  | raw u => exact x.elim
  | sr i S n => exact x.elim
/-- what an operation leaves, the slots hold -/
theorem Rep.step (x : Rep w Z O L H σ ε) (e : Ext none L H L' H') (s : Same L' H') : Rep w Z O L' H' σ ε := by
  have hh : ∀ a o, H a = some o → H' a = some o := fun a o h => e.hh a o h fun z => nomatch z
  refine ⟨s, x.pn.trans e.ll, x.ex.trans e.any, fun b hb => ?_, fun a h => ⟨e.dom a (x.oh a h).1, (x.oh a h).2⟩, x.len, fun i y hy => ?_, x.di⟩
  · obtain ⟨h1, h2, h3⟩ := x.bo b hb
    refine ⟨e.fr b h1 h2.there, ?_, h3⟩
    obtain ⟨x0, x1, x2, q, r⟩ := h2
    exact ⟨x0, x1, x2, hh _ _ q, r⟩
  · obtain ⟨o, h1, h2⟩ := x.sl i y hy
    refine ⟨o, h1, ?_⟩
    cases y with
    | un => trivial
    | sh d =>
      obtain ⟨v, e1, e2⟩ := h2
      exact ⟨v, e1, e2.to e.ll⟩
    | ow ds =>
      obtain ⟨a, xs, e1, e2, e3, e4, e5, e6⟩ := h2
      exact ⟨a, xs, e1, e2, e.fr a e3 (by rw [e5]; exact fun z => nomatch z), e4, hh _ _ e5, e6.to e.ll⟩
    | bx => exact h2
    | st S n =>
      obtain ⟨a, e1, e2, e3, e4, e5⟩ := h2
      exact ⟨a, e1, e2, e.fr a e3 (by rw [e5]; exact fun z => nomatch z), e4, hh _ _ e5⟩
    | raw u => exact h2
/-- a new list that nobody holds is published -/
theorem pub (x : Rep w Z O L' H' σ ε) (e : Ext Z.b L H L' H') {ds : List PyData} (h : VR w Z O σ H L' H' v (.nw ds)) : ∃ L2, Rep w Z O L2 H' σ ε ∧ Ext Z.b L H L2 H' ∧ DV L2 v (.list ds) := by
  obtain ⟨a, xs, rfl, h1, h2, h3, h4, h5, h6⟩ := h
  have s1 : Same L' (upd L' a (.lst xs)) := same_upd h4
  refine ⟨upd L' a (.lst xs), ⟨same_pub x.lh h5, x.pn.trans s1, ⟨x.ex.ll.trans s1, x.ex.hh, x.ex.dom, fun b hb hd => ?_⟩, fun b hb => ?_, x.oh, x.len, fun i y hy => ?_, x.di⟩, ⟨e.ll.trans s1, e.hh, e.dom, fun b hb hd => ?_⟩, .lst upd_same (h6.to s1)⟩
  · rw [upd_ne (ne_at hd h3)]; exact x.ex.fr b hb hd
  · obtain ⟨q1, q2, q3⟩ := x.bo b hb
    exact ⟨by rw [upd_ne (ne_at q3 h3)]; exact q1, q2, q3⟩
  · obtain ⟨o, q1, q2⟩ := x.sl i y hy
    refine ⟨o, q1, ?_⟩
    cases y with
    | un => trivial
    | sh d =>
      obtain ⟨v, e1, e2⟩ := q2
      exact ⟨v, e1, e2.to s1⟩
    | ow ds =>
      obtain ⟨b, ys, e1, e2, e3, e4, e5, e6⟩ := q2
      exact ⟨b, ys, e1, e2, by rw [upd_ne (fun z => h2 (by rw [← z]; exact e2))]; exact e3, e4, e5, e6.to s1⟩
    | bx => exact q2
    | st S n =>
      obtain ⟨b, e1, e2, e3, e4, e5⟩ := q2
      exact ⟨b, e1, e2, by rw [upd_ne (fun z => h2 (by rw [← z]; exact e2))]; exact e3, e4, e5⟩
    | raw u => exact q2
  · rw [upd_ne (ne_at hd h1)]; exact e.fr b hb hd
end
/-- a value as data, its own list (if it is one) as it stands in H -/
def VL (L H : Hp) (v : V) (d : PyData) : Prop := DV L v d ∨ ∃ a xs ds, d = .list ds ∧ v = .ref a ∧ H a = some (.lst xs) ∧ DVs L xs ds
section
variable {L H : Hp} {v : V}
theorem VL.dv {d : PyData} (x : VL L H v d) (s : Same L H) : DV H v d := by
  rcases x with x | ⟨a, xs, ds, rfl, rfl, h, r⟩
  · exact x.to s
  · exact .lst h (r.to s)
theorem VL.lst {ds : List PyData} (x : VL L H v (.list ds)) (s : Same L H) : ∃ a xs, v = .ref a ∧ H a = some (.lst xs) ∧ DVs L xs ds := by
  rcases x with x | ⟨a, xs, es, e, rfl, h, r⟩
  · cases x with
    | lst h r => exact ⟨_, _, rfl, s _ _ h, r⟩
  · cases e; exact ⟨a, xs, rfl, h, r⟩
theorem VL.tup {ds : List PyData} (x : VL L H v (.tuple ds)) : ∃ a xs, v = .ref a ∧ Sol L a xs ∧ DVs L xs ds := by
  rcases x with x | ⟨a, xs, es, e, rfl, h, r⟩
  · cases x with
    | tup h r => exact ⟨_, _, rfl, h, r⟩
  · cases e
theorem VL.int {i : Int} (x : VL L H v (.int i)) : v = .int i := by
  rcases x with x | ⟨a, xs, es, e, _⟩
  · cases x; rfl
  · cases e
theorem VL.bl {i : Bool} (x : VL L H v (.bool i)) : v = .bl i := by
  rcases x with x | ⟨a, xs, es, e, _⟩
  · cases x; rfl
  · cases e
theorem VL.str {i : Str} (x : VL L H v (.str i)) : v = .str i := by
  rcases x with x | ⟨a, xs, es, e, _⟩
  · cases x; rfl
  · cases e
theorem VL.non (x : VL L H v .none) : v = .non := by
  rcases x with x | ⟨a, xs, es, e, _⟩
  · cases x; rfl
  · cases e
end
/-- as data, a pair just made by a walk taken as it stands -/
def VT (L H : Hp) (v : V) (d : PyData) : Prop := DV L v d ∨ ∃ a xs ds, d = .tuple ds ∧ v = .ref a ∧ H a = some (.tup xs) ∧ DVs L xs ds
def VI (pk : Bool) (L H : Hp) (v : V) (d : PyData) : Prop := match pk with
  | true => VT L H v d
  | false => DV L v d
theorem VI.of {pk : Bool} {L H : Hp} {v : V} {d : PyData} (h : DV L v d) : VI pk L H v d := by
  cases pk with
  | true => exact .inl h
  | false => exact h
def R.dat : R → Option PyData
  | .sh d => some d
  | .nw ds => some (.list ds)
  | .br _ ds => some (.list ds)
  | _ => none
theorem VR.vl {w : World} {Z : Zx} {O : Addr → Prop} {σ : L2.St} {Hs L H : Hp} {v : V} {r : R} {d : PyData} (x : VR w Z O σ Hs L H v r) (e : r.dat = some d) : VL L H v d := by
  cases r with
  | sh d => cases e; exact .inl x
  | nw ds =>
    cases e
    obtain ⟨a, xs, rfl, h1, h2, h3, h4, h5, h6⟩ := x
    exact .inr ⟨a, xs, ds, rfl, rfl, h5, h6⟩
  | br i ds =>
    cases e
    obtain ⟨a, xs, rfl, h1, h2, h3, h4, h5, h6⟩ := x
    exact .inr ⟨a, xs, ds, rfl, rfl, h5, h6⟩
  | bx => cases e
  | raw u => cases e
  | sr i S n => cases e
end Lp

namespace Lp
open PySem PySem.Spec PyProof.Rows L2
/-! ### expressions as data -/
abbrev DTE := Env → (R → Env → Prop) → Prop
abbrev DTT := Env → (Bool → Env → Prop) → Prop
abbrev DTA := Env → (List R → Env → Prop) → Prop
structure SE (w : World) (t : TE) (f : DTE) : Prop where
  mono : ∀ ε (A B : R → Env → Prop), (∀ r ε', A r ε' → B r ε') → f ε A → f ε B
  run : ∀ (Z : Zx) (O : Addr → Prop) (σ : L2.St) (ε : Env) (L H : Hp) (Q : VK), Rep w Z O L H σ ε → f ε (fun r ε' => ∀ v L' H', Rep w Z O L' H' σ ε' → Ext Z.b L H L' H' → VR w Z O σ H L' H' v r → Q v H') → t σ H Q
structure ST (w : World) (t : TT) (f : DTT) : Prop where
  mono : ∀ ε (A B : Bool → Env → Prop), (∀ r ε', A r ε' → B r ε') → f ε A → f ε B
  run : ∀ (Z : Zx) (O : Addr → Prop) (σ : L2.St) (ε : Env) (L H : Hp) (Q : Bool → Hp → Prop), Rep w Z O L H σ ε → f ε (fun b ε' => ∀ L' H', Rep w Z O L' H' σ ε' → Ext Z.b L H L' H' → Q b H') → t σ H Q
inductive VRs (w : World) (Z : Zx) (O : Addr → Prop) (σ : L2.St) (Hs L H : Hp) : List V → List R → Prop
  | nil : VRs w Z O σ Hs L H [] []
  | cons {v : V} {vs : List V} {r : R} {rs : List R} : VR w Z O σ Hs L H v r → VRs w Z O σ Hs L H vs rs → VRs w Z O σ Hs L H (v :: vs) (r :: rs)
/-- n arguments, each published -/
structure SA (w : World) (n : Nat) (t : TA) (f : DTA) : Prop where
  mono : ∀ ε (A B : List R → Env → Prop), (∀ r ε', A r ε' → B r ε') → f ε A → f ε B
  run : ∀ (Z : Zx) (O : Addr → Prop) (σ : L2.St) (ε : Env) (L H : Hp) (Q : List V → Hp → Prop), Rep w Z O L H σ ε → f ε (fun rs ε' => ∀ vs L' H', Rep w Z O L' H' σ ε' → Ext Z.b L H L' H' → VRs w Z O σ H L' H' vs rs → rs.length = n → (∀ r ∈ rs, ∀ ds, r ≠ .nw ds) → Q vs H') → t σ H Q
section
variable {w : World} {ta tb tc : TE} {f g h : DTE}
theorem VRs.mono {Z : Zx} {O : Addr → Prop} {σ : L2.St} {ε : Env} {Hs L H L' H' : Hp} (y : Rep w Z O L H σ ε) (e : Ext Z.b L H L' H') : ∀ {vs : List V} {rs : List R}, VRs w Z O σ Hs L H vs rs → VRs w Z O σ Hs L' H' vs rs
  | _, _, .nil => .nil
  | _, _, .cons a r => .cons (a.mono y e) (VRs.mono y e r)
theorem VRs.back {Z : Zx} {O : Addr → Prop} {σ : L2.St} {Hs L H L' Hr Lr : Hp} (e : Ext Z.b Lr Hr L' Hs) : ∀ {vs : List V} {rs : List R}, VRs w Z O σ Hs L H vs rs → VRs w Z O σ Hr L H vs rs
  | _, _, .nil => .nil
  | _, _, .cons a r => .cons (a.back e) (VRs.back e r)
theorem VRs.len {Z : Zx} {O : Addr → Prop} {σ : L2.St} {Hs L H : Hp} : ∀ {vs : List V} {rs : List R}, VRs w Z O σ Hs L H vs rs → vs.length = rs.length
  | _, _, .nil => rfl
  | _, _, .cons _ r => by rw [List.length_cons, List.length_cons, r.len]
/-! ### names and constants -/
def dVar (i : Nat)  (ε : Env) (Q : R → Env → Prop) : Prop := match ε.s[i]? with
  | some (.sh d) => Q (.sh d) ε
  | some (.ow ds) => Q (.br i ds) ε
  | some .bx => Q .bx ε
  | some (.raw v) => Q (.raw v) ε
  | some (.st S n) => Q (.sr i S n) ε
  | _ => False
theorem se_var {i : Nat} : SE w (tVar i) (dVar i) := by
  constructor
  · intro ε A B h q
    unfold dVar at q ⊢
    split at q
    all_goals first | exact h _ _ q | exact q.elim
  · intro Z O σ ε L H Q x q
    unfold dVar at q
    have e0 := Ext.refl Z.b L H
    split at q
    · rename_i d hd
      obtain ⟨o, h1, v, h2, h3⟩ := x.sl i _ hd
      subst h2
      exact ⟨v, h1, q v L H x e0 h3⟩
    · rename_i ds hd
      obtain ⟨o, h1, a, xs, h2, h3, h4, h5, h6, h7⟩ := x.sl i _ hd
      subst h2
      exact ⟨.ref a, h1, q _ L H x e0 ⟨a, xs, rfl, h1, h3, h5, h4, h6, h7⟩⟩
    · rename_i hd
      obtain ⟨o, h1, b, h2, h3⟩ := x.sl i _ hd
      subst h3
      exact ⟨.ref b, h1, q _ L H x e0 ⟨b, h2, rfl⟩⟩
    · rename_i v hd
      obtain ⟨o, h1, h2⟩ := x.sl i _ hd
      have h2' : o = some v := h2
      subst h2'
      exact ⟨v, h1, q _ L H x e0 rfl⟩
    · rename_i S n hd
      obtain ⟨o, h1, a, h2, h3, h4, h5, h6⟩ := x.sl i _ hd
      subst h2
      exact ⟨.ref a, h1, q _ L H x e0 ⟨a, rfl, h1, h3, h5, h4, h6⟩⟩
    · exact q.elim
def dC (d : PyData)  (ε : Env) (Q : R → Env → Prop) : Prop := Q (.sh d) ε
theorem se_int {i : Int} : SE w (tC (.int i)) (dC (.int i)) := ⟨fun ε A B h q => h _ _ q, fun Z O σ ε L H Q x q => q _ L H x (Ext.refl _ _ _) (.int i)⟩
theorem se_bl {i : Bool} : SE w (tC (.bl i)) (dC (.bool i)) := ⟨fun ε A B h q => h _ _ q, fun Z O σ ε L H Q x q => q _ L H x (Ext.refl _ _ _) (.bl i)⟩
theorem se_str {i : Str} : SE w (tC (.str i)) (dC (.str i)) := ⟨fun ε A B h q => h _ _ q, fun Z O σ ε L H Q x q => q _ L H x (Ext.refl _ _ _) (.str i)⟩
theorem se_non : SE w (tC .non) (dC .none) := ⟨fun ε A B h q => h _ _ q, fun Z O σ ε L H Q x q => q _ L H x (Ext.refl _ _ _) .non⟩
def dRaw (v : V)  (ε : Env) (Q : R → Env → Prop) : Prop := Q (.raw v) ε
theorem se_raw {v : V} : SE w (tC v) (dRaw v) := ⟨fun ε A B h q => h _ _ q, fun Z O σ ε L H Q x q => q _ L H x (Ext.refl _ _ _) rfl⟩
/-! ### operations by values -/
structure R2K (r : R2) (φ : PyData → PyData → (R → Prop) → Prop) : Prop where
  mono : ∀ x y (A B : R → Prop), (∀ r, A r → B r) → φ x y A → φ x y B
  run : ∀ (L H : Hp) (x y : V) (dx dy : PyData) (Q : VK), Same L H → VL L H x dx → VL L H y dy → φ dx dy (fun r => ∀ v L' H', Ext none L H L' H' → Same L' H' → VR0 H L' H' v r → Q v H') → r x y H Q
def dOp (φ : PyData → PyData → (R → Prop) → Prop) (f g : DTE)  (ε : Env) (Q : R → Env → Prop) : Prop := f ε fun x ε1 => g ε1 fun y ε2 => match x.dat, y.dat with
  | some dx, some dy => φ dx dy fun r => Q r ε2
  | _, _ => False
theorem se_op {r : R2} {φ : PyData → PyData → (R → Prop) → Prop} (k : R2K r φ) (hf : SE w ta f) (hg : SE w tb g) : SE w (tOp r ta tb) (dOp φ f g) := by
  constructor
  · intro ε A B h q
    refine hf.mono _ _ _ (fun x ε1 q => hg.mono _ _ _ (fun y ε2 q => ?_) q) q
    show match x.dat, y.dat with
      | some dx, some dy => φ dx dy fun r => B r ε2
      | _, _ => False
    split at q
    · exact k.mono _ _ _ _ (fun r q => h _ _ q) q
    · exact q.elim
  · intro Z O σ ε L H Q X q
    refine hf.run Z O σ ε L H _ X (hf.mono _ _ _ (fun x ε1 q => ?_) q)
    intro v L1 H1 X1 e1 r1
    refine hg.run Z O σ ε1 L1 H1 _ X1 (hg.mono _ _ _ (fun y ε2 q => ?_) q)
    intro u L2 H2 X2 e2 r2
    have r1' := r1.mono X1 e2
    split at q
    · rename_i dx dy ex ey
      refine k.run L2 H2 v u dx dy Q X2.lh (r1'.vl ex) (r2.vl ey) (k.mono _ _ _ _ (fun r q => ?_) q)
      intro z L3 H3 e3 s3 r3
      exact q z L3 H3 (X2.step e3 s3) ((e1.trans e2).trans e3.any) ((r3.vr X2).back (e1.trans e2))
    · exact q.elim
structure RUK (r : V → Hp → VK → Prop) (φ : PyData → (R → Prop) → Prop) : Prop where
  mono : ∀ x (A B : R → Prop), (∀ r, A r → B r) → φ x A → φ x B
  run : ∀ (L H : Hp) (x : V) (dx : PyData) (Q : VK), Same L H → VL L H x dx → φ dx (fun r => ∀ v L' H', Ext none L H L' H' → Same L' H' → VR0 H L' H' v r → Q v H') → r x H Q
def dUn (φ : PyData → (R → Prop) → Prop) (f : DTE)  (ε : Env) (Q : R → Env → Prop) : Prop := f ε fun x ε1 => match x.dat with
  | some dx => φ dx fun r => Q r ε1
  | _ => False
theorem se_un {r : V → Hp → VK → Prop} {φ : PyData → (R → Prop) → Prop} (k : RUK r φ) (hf : SE w ta f) : SE w (tUn r ta) (dUn φ f) := by
  constructor
  · intro ε A B h q
    refine hf.mono _ _ _ (fun x ε1 q => ?_) q
    show match x.dat with
      | some dx => φ dx fun r => B r ε1
      | _ => False
    split at q
    · exact k.mono _ _ _ (fun r q => h _ _ q) q
    · exact q.elim
  · intro Z O σ ε L H Q X q
    refine hf.run Z O σ ε L H _ X (hf.mono _ _ _ (fun x ε1 q => ?_) q)
    intro v L1 H1 X1 e1 r1
    split at q
    · rename_i dx ex
      refine k.run L1 H1 v dx Q X1.lh (r1.vl ex) (k.mono _ _ _ (fun r q => ?_) q)
      intro z L3 H3 e3 s3 r3
      exact q z L3 H3 (X1.step e3 s3) (e1.trans e3.any) ((r3.vr X1).back e1)
    · exact q.elim
/-! ### tests -/
def dTest (f : DTE)  (ε : Env) (Q : Bool → Env → Prop) : Prop := f ε fun r ε1 => match r.dat with
  | some (.bool k) => Q k ε1
  | _ => False
theorem st_test (hf : SE w ta f) : ST w (tTest ta) (dTest f) := by
  constructor
  · intro ε A B h q
    refine hf.mono _ _ _ (fun r ε1 q => ?_) q
    show match r.dat with
      | some (.bool k) => B k ε1
      | _ => False
    split at q
    · exact h _ _ q
    · exact q.elim
  · intro Z O σ ε L H Q X q
    refine hf.run Z O σ ε L H _ X (hf.mono _ _ _ (fun r ε1 q => ?_) q)
    intro v L1 H1 X1 e1 r1
    split at q
    · rename_i k ek
      exact ⟨k, (r1.vl ek).bl, q L1 H1 X1 e1⟩
    · exact q.elim
theorem st_B (hf : SE w ta f) : ST w (tB ta) (dTest f) := st_test hf
def truD : PyData → Option Bool
  | .none => some false
  | .bool b => some b
  | .int i => some (i != 0)
  | .list ds => some (!ds.isEmpty)
  | .tuple ds => some (!ds.isEmpty)
  | _ => none
theorem isE {H : Hp} {xs : List V} {ds : List PyData} (h : DVs H xs ds) : xs.isEmpty = ds.isEmpty := by cases h <;> rfl
def dTruth (f : DTE)  (ε : Env) (Q : Bool → Env → Prop) : Prop := f ε fun r ε1 => match r.dat.bind truD with
  | some k => Q k ε1
  | _ => False
theorem tru_of {K : PySem.W.Frag} {L H : Hp} {v : V} {d : PyData} {k : Bool} (x : VL L H v d) (s : Same L H) (e : truD d = some k) : TruV K v H k := by
  cases d with
  | none => rw [x.non]; cases e; rfl
  | bool b => rw [x.bl]; cases e; rfl
  | int i => rw [x.int]; cases e; rfl
  | list ds =>
    obtain ⟨a, xs, rfl, h1, h2⟩ := x.lst s
    cases e
    exact .inl ⟨xs, SqL.of h1, by rw [isE h2]⟩
  | tuple ds =>
    obtain ⟨a, xs, rfl, h1, h2⟩ := x.tup
    cases e
    exact .inr (.inl ⟨xs, (h1.to s).seq, by rw [isE h2]⟩)
  | str _ => cases e
  | dict _ => cases e
theorem st_truth {K : PySem.W.Frag} (hf : SE w ta f) : ST w (fun σ H Q => ta σ H fun x H1 => ∃ k, TruV K x H1 k ∧ Q k H1) (dTruth f) := by
  constructor
  · intro ε A B h q
    refine hf.mono _ _ _ (fun r ε1 q => ?_) q
    show match r.dat.bind truD with
      | some k => B k ε1
      | _ => False
    split at q
    · exact h _ _ q
    · exact q.elim
  · intro Z O σ ε L H Q X q
    refine hf.run Z O σ ε L H _ X (hf.mono _ _ _ (fun r ε1 q => ?_) q)
    intro v L1 H1 X1 e1 r1
    split at q
    · rename_i k ek
      cases ed : r.dat with
      | none => rw [ed] at ek; cases ek
      | some d =>
        rw [ed] at ek
        exact ⟨k, tru_of (r1.vl ed) X1.lh ek, q L1 H1 X1 e1⟩
    · exact q.elim
def dAnd (f g : DTT)  (ε : Env) (Q : Bool → Env → Prop) : Prop := f ε fun c ε1 => if c = true then g ε1 Q else Q false ε1
def dOr (f g : DTT)  (ε : Env) (Q : Bool → Env → Prop) : Prop := f ε fun c ε1 => if c = true then Q true ε1 else g ε1 Q
def dNot (f : DTT)  (ε : Env) (Q : Bool → Env → Prop) : Prop := f ε fun c ε1 => Q (!c) ε1
variable {t u : TT} {p q : DTT}
theorem st_and (hf : ST w t p) (hg : ST w u q) : ST w (tAnd t u) (dAnd p q) := by
  constructor
  · intro ε A B h z
    refine hf.mono _ _ _ (fun c ε1 z => ?_) z
    cases c with
    | true => exact iteT (hg.mono _ _ _ h (by rw [if_pos rfl] at z; exact z))
    | false => exact iteF (h _ _ (by rw [if_neg Bool.false_ne_true] at z; exact z))
  · intro Z O σ ε L H Q X z
    refine hf.run Z O σ ε L H _ X (hf.mono _ _ _ (fun c ε1 z => ?_) z)
    intro L1 H1 X1 e1
    cases c with
    | true =>
      rw [if_pos rfl] at z
      exact iteT (hg.run Z O σ ε1 L1 H1 _ X1 (hg.mono _ _ _ (fun b ε2 z L2 H2 X2 e2 => z L2 H2 X2 (e1.trans e2)) z))
    | false =>
      rw [if_neg Bool.false_ne_true] at z
      exact iteF (z L1 H1 X1 e1)
theorem st_or (hf : ST w t p) (hg : ST w u q) : ST w (tOr t u) (dOr p q) := by
  constructor
  · intro ε A B h z
    refine hf.mono _ _ _ (fun c ε1 z => ?_) z
    cases c with
    | false => exact iteF (hg.mono _ _ _ h (by rw [if_neg Bool.false_ne_true] at z; exact z))
    | true => exact iteT (h _ _ (by rw [if_pos rfl] at z; exact z))
  · intro Z O σ ε L H Q X z
    refine hf.run Z O σ ε L H _ X (hf.mono _ _ _ (fun c ε1 z => ?_) z)
    intro L1 H1 X1 e1
    cases c with
    | false =>
      rw [if_neg Bool.false_ne_true] at z
      exact iteF (hg.run Z O σ ε1 L1 H1 _ X1 (hg.mono _ _ _ (fun b ε2 z L2 H2 X2 e2 => z L2 H2 X2 (e1.trans e2)) z))
    | true =>
      rw [if_pos rfl] at z
      exact iteT (z L1 H1 X1 e1)
theorem st_not (hf : ST w t p) : ST w (tNot t) (dNot p) := by
  constructor
  · intro ε A B h z
    exact hf.mono _ _ _ (fun c ε1 z => h _ _ z) z
  · intro Z O σ ε L H Q X z
    exact hf.run Z O σ ε L H _ X z
def dYes  (ε : Env) (Q : Bool → Env → Prop) : Prop := Q true ε
theorem st_yes : ST w tYes dYes := ⟨fun ε A B h q => h _ _ q, fun Z O σ ε L H Q X z => z L H X (Ext.refl _ _ _)⟩
def dIf (c : DTT) (f g : DTE)  (ε : Env) (Q : R → Env → Prop) : Prop := c ε fun b ε1 => if b = true then f ε1 Q else g ε1 Q
theorem se_if (hc : ST w t p) (hf : SE w ta f) (hg : SE w tb g) : SE w (tIf t ta tb) (dIf p f g) := by
  constructor
  · intro ε A B h z
    refine hc.mono _ _ _ (fun c ε1 z => ?_) z
    cases c with
    | false => exact iteF (hg.mono _ _ _ h (by rw [if_neg Bool.false_ne_true] at z; exact z))
    | true => exact iteT (hf.mono _ _ _ h (by rw [if_pos rfl] at z; exact z))
  · intro Z O σ ε L H Q X z
    refine hc.run Z O σ ε L H _ X (hc.mono _ _ _ (fun c ε1 z => ?_) z)
    intro L1 H1 X1 e1
    cases c with
    | false =>
      rw [if_neg Bool.false_ne_true] at z
      exact iteF (hg.run Z O σ ε1 L1 H1 _ X1 (hg.mono _ _ _ (fun b ε2 z v L2 H2 X2 e2 r => z v L2 H2 X2 (e1.trans e2) (r.back e1)) z))
    | true =>
      rw [if_pos rfl] at z
      exact iteT (hf.run Z O σ ε1 L1 H1 _ X1 (hf.mono _ _ _ (fun b ε2 z v L2 H2 X2 e2 r => z v L2 H2 X2 (e1.trans e2) (r.back e1)) z))
def dAndV (f g : DTE)  (ε : Env) (Q : R → Env → Prop) : Prop := f ε fun r ε1 => match r.dat with
  | some (.bool k) => if k = true then g ε1 Q else Q (.sh (.bool false)) ε1
  | _ => False
def dOrV (f g : DTE)  (ε : Env) (Q : R → Env → Prop) : Prop := f ε fun r ε1 => match r.dat with
  | some (.bool k) => if k = true then Q (.sh (.bool true)) ε1 else g ε1 Q
  | _ => False
def dNotV (f : DTE)  (ε : Env) (Q : R → Env → Prop) : Prop := f ε fun r ε1 => match r.dat with
  | some (.bool b) => Q (.sh (.bool (!b))) ε1
  | _ => False
theorem se_andV (hf : SE w ta f) (hg : SE w tb g) : SE w (tAndV ta tb) (dAndV f g) := by
  constructor
  · intro ε A B h z
    refine hf.mono _ _ _ (fun r ε1 z => ?_) z
    split at z
    · rename_i k _
      cases k with
      | true => exact iteT (hg.mono _ _ _ h (by rw [if_pos rfl] at z; exact z))
      | false => exact iteF (h _ _ (by rw [if_neg Bool.false_ne_true] at z; exact z))
    · exact z.elim
  · intro Z O σ ε L H Q X z
    refine hf.run Z O σ ε L H _ X (hf.mono _ _ _ (fun r ε1 z => ?_) z)
    intro v L1 H1 X1 e1 r1
    split at z
    · rename_i k ek
      cases k with
      | true =>
        rw [if_pos rfl] at z
        exact ⟨true, (r1.vl ek).bl, iteT (hg.run Z O σ ε1 L1 H1 _ X1 (hg.mono _ _ _ (fun b ε2 z v L2 H2 X2 e2 r => z v L2 H2 X2 (e1.trans e2) (r.back e1)) z))⟩
      | false =>
        rw [if_neg Bool.false_ne_true] at z
        exact ⟨false, (r1.vl ek).bl, iteF (z _ L1 H1 X1 e1 (.bl false))⟩
    · exact z.elim
theorem se_orV (hf : SE w ta f) (hg : SE w tb g) : SE w (tOrV ta tb) (dOrV f g) := by
  constructor
  · intro ε A B h z
    refine hf.mono _ _ _ (fun r ε1 z => ?_) z
    split at z
    · rename_i k _
      cases k with
      | false => exact iteF (hg.mono _ _ _ h (by rw [if_neg Bool.false_ne_true] at z; exact z))
      | true => exact iteT (h _ _ (by rw [if_pos rfl] at z; exact z))
    · exact z.elim
  · intro Z O σ ε L H Q X z
    refine hf.run Z O σ ε L H _ X (hf.mono _ _ _ (fun r ε1 z => ?_) z)
    intro v L1 H1 X1 e1 r1
    split at z
    · rename_i k ek
      cases k with
      | false =>
        rw [if_neg Bool.false_ne_true] at z
        exact ⟨false, (r1.vl ek).bl, iteF (hg.run Z O σ ε1 L1 H1 _ X1 (hg.mono _ _ _ (fun b ε2 z v L2 H2 X2 e2 r => z v L2 H2 X2 (e1.trans e2) (r.back e1)) z))⟩
      | true =>
        rw [if_pos rfl] at z
        exact ⟨true, (r1.vl ek).bl, iteT (z _ L1 H1 X1 e1 (.bl true))⟩
    · exact z.elim
theorem se_notV (hf : SE w ta f) : SE w (tNotV ta) (dNotV f) := by
  constructor
  · intro ε A B h z
    refine hf.mono _ _ _ (fun r ε1 z => ?_) z
    show match r.dat with
      | some (.bool b) => B (.sh (.bool (!b))) ε1
      | _ => False
    split at z
    · exact h _ _ z
    · exact z.elim
  · intro Z O σ ε L H Q X z
    refine hf.run Z O σ ε L H _ X (hf.mono _ _ _ (fun r ε1 z => ?_) z)
    intro v L1 H1 X1 e1 r1
    split at z
    · rename_i b ek
      exact ⟨b, (r1.vl ek).bl, z _ L1 H1 X1 e1 (.bl (!b))⟩
    · exact z.elim
/-- a op b op' c -/
def dChain (φ ψ : PyData → PyData → (R → Prop) → Prop) (f g h : DTE)  (ε : Env) (Q : R → Env → Prop) : Prop := f ε fun x ε1 => g ε1 fun y ε2 => match x.dat, y.dat with
  | some dx, some dy => φ dx dy fun r => match r with
    | .sh (.bool k) => if k = true then (h ε2 fun z ε3 => match z.dat with
      | some dz => ψ dy dz fun r => Q r ε3
      | _ => False) else Q (.sh (.bool false)) ε2
    | _ => False
  | _, _ => False
theorem se_chain {r s : R2} {φ ψ : PyData → PyData → (R → Prop) → Prop} (k : R2K r φ) (l : R2K s ψ) (hf : SE w ta f) (hg : SE w tb g) (hh : SE w tc h) : SE w (tChain r s ta tb tc) (dChain φ ψ f g h) := by
  constructor
  · intro ε A B hAB q
    refine hf.mono _ _ _ (fun x ε1 q => hg.mono _ _ _ (fun y ε2 q => ?_) q) q
    split at q
    · refine k.mono _ _ _ _ (fun r q => ?_) q
      split at q
      · rename_i k0
        cases k0 with
        | true =>
          rw [if_pos rfl] at q
          refine iteT (hh.mono _ _ _ (fun z ε3 q => ?_) q)
          split at q
          · exact l.mono _ _ _ _ (fun r q => hAB _ _ q) q
          · exact q.elim
        | false =>
          rw [if_neg Bool.false_ne_true] at q
          exact iteF (hAB _ _ q)
      · exact q.elim
    · exact q.elim
  · intro Z O σ ε L H Q X q
    refine hf.run Z O σ ε L H _ X (hf.mono _ _ _ (fun x ε1 q => ?_) q)
    intro v L1 H1 X1 e1 r1
    refine hg.run Z O σ ε1 L1 H1 _ X1 (hg.mono _ _ _ (fun y ε2 q => ?_) q)
    intro u L2 H2 X2 e2 r2
    have r1' := r1.mono X1 e2
    split at q
    · rename_i dx dy ex ey
      refine k.run L2 H2 v u dx dy _ X2.lh (r1'.vl ex) (r2.vl ey) (k.mono _ _ _ _ (fun r q => ?_) q)
      intro z L3 H3 e3 s3 r3
      have X3 := X2.step e3 s3
      have r2' := r2.mono X2 e3.any
      split at q
      · rename_i k0
        cases (show DV L3 z (.bool k0) from r3)
        cases k0 with
        | true =>
          rw [if_pos rfl] at q
          refine ⟨true, rfl, iteT ?_⟩
          refine hh.run Z O σ ε2 L3 H3 _ X3 (hh.mono _ _ _ (fun c ε3 q => ?_) q)
          intro z' L4 H4 X4 e4 r4
          split at q
          · rename_i dz ez
            refine l.run L4 H4 u z' dy dz Q X4.lh ((r2'.mono X3 e4).vl ey) (r4.vl ez) (l.mono _ _ _ _ (fun r q => ?_) q)
            intro o L5 H5 e5 s5 r5
            have et := ((e1.trans e2).trans e3.any).trans e4
            exact q o L5 H5 (X4.step e5 s5) (et.trans e5.any) ((r5.vr X4).back et)
          · exact q.elim
        | false =>
          rw [if_neg Bool.false_ne_true] at q
          exact ⟨false, rfl, iteF (q _ L3 H3 X3 ((e1.trans e2).trans e3.any) (.bl false))⟩
      · exact q.elim
    · exact q.elim
/-! ### arguments -/
def R.pub : R → R
  | .nw ds => .sh (.list ds)
  | r => r
theorem R.pub_nw (r : R) (ds : List PyData) : r.pub ≠ .nw ds := by
  cases r <;> exact fun h => nomatch h
theorem publ {Z : Zx} {O : Addr → Prop} {σ : L2.St} {ε : Env} {L H L' H' : Hp} {v : V} {r : R} (x : Rep w Z O L' H' σ ε) (e : Ext Z.b L H L' H') (h : VR w Z O σ H L' H' v r) : ∃ L2, Rep w Z O L2 H' σ ε ∧ Ext Z.b L H L2 H' ∧ VR w Z O σ H L2 H' v r.pub := by
  cases r with
  | nw ds =>
    obtain ⟨L2, h1, h2, h3⟩ := Lp.pub x e h
    exact ⟨L2, h1, h2, h3⟩
  | _ => exact ⟨L', x, e, h⟩
def dNil  (ε : Env) (Q : List R → Env → Prop) : Prop := Q [] ε
def dCons (f : DTE) (g : DTA)  (ε : Env) (Q : List R → Env → Prop) : Prop := f ε fun r ε1 => g ε1 fun rs ε2 => Q (r.pub :: rs) ε2
theorem sa_nil : SA w 0 tNil dNil := ⟨fun ε A B h q => h _ _ q, fun Z O σ ε L H Q X z => z _ L H X (Ext.refl _ _ _) .nil rfl (fun _ h => nomatch h)⟩
theorem sa_cons {n : Nat} {tr : TA} {g : DTA} (hf : SE w ta f) (hg : SA w n tr g) : SA w (n + 1) (tCons ta tr) (dCons f g) := by
  constructor
  · intro ε A B h z
    exact hf.mono _ _ _ (fun r ε1 z => hg.mono _ _ _ (fun rs ε2 z => h _ _ z) z) z
  · intro Z O σ ε L H Q X z
    refine hf.run Z O σ ε L H _ X (hf.mono _ _ _ (fun r ε1 z => ?_) z)
    intro v L1 H1 X1 e1 r1
    obtain ⟨L1', X1', e1', r1'⟩ := publ X1 e1 r1
    refine hg.run Z O σ ε1 L1' H1 _ X1' (hg.mono _ _ _ (fun rs ε2 z => ?_) z)
    intro vs L2 H2 X2 e2 rs2 hl np
    refine z (v :: vs) L2 H2 X2 (e1'.trans e2) (.cons (r1'.mono X1' e2) (rs2.back e1')) (by rw [List.length_cons, hl]) (fun x hx ds => ?_)
    rcases List.mem_cons.mp hx with rfl | hx
    · exact R.pub_nw r ds
    · exact np x hx ds
/-- all of them data that stands still -/
def shs : List R → Option (List PyData)
  | [] => some []
  | .sh d :: rs => match shs rs with
    | some ds => some (d :: ds)
    | none => none
  | _ => none
theorem shs_ok {Z : Zx} {O : Addr → Prop} {σ : L2.St} {Hs L H : Hp} : ∀ {rs : List R} {vs : List V} {ds : List PyData}, VRs w Z O σ Hs L H vs rs → shs rs = some ds → DVs L vs ds
  | [], _, _, .nil, e => by cases e; exact .nil
  | .sh d :: rs, _, ds, .cons a r, e => by
    unfold shs at e
    split at e
    · rename_i es h
      cases e
      exact .cons a (shs_ok r h)
    · cases e
  | .nw _ :: _, _, _, .cons _ _, e => by cases e
  | .br _ _ :: _, _, _, .cons _ _, e => by cases e
  | .bx :: _, _, _, .cons _ _, e => by cases e
  | .raw _ :: _, _, _, .cons _ _, e => by cases e
  | .sr _ _ _ :: _, _, _, .cons _ _, e => by cases e
def dTup (f : DTA)  (ε : Env) (Q : R → Env → Prop) : Prop := f ε fun rs ε1 => match shs rs with
  | some ds => Q (.sh (.tuple ds)) ε1
  | none => False
def dLst (f : DTA)  (ε : Env) (Q : R → Env → Prop) : Prop := f ε fun rs ε1 => match shs rs with
  | some ds => Q (.nw ds) ε1
  | none => False
theorem se_tup {n : Nat} {t : TA} {f : DTA} (hf : SA w n t f) (hn : n ≤ sizeLine := by decide) : SE w (tTupS t) (dTup f) := by
  constructor
  · intro ε A B h z
    refine hf.mono _ _ _ (fun rs ε1 z => ?_) z
    split at z
    · exact h _ _ z
    · exact z.elim
  · intro Z O σ ε L H Q X z
    refine hf.run Z O σ ε L H _ X (hf.mono _ _ _ (fun rs ε1 z => ?_) z)
    intro vs L1 H1 X1 e1 r1 hl np
    split at z
    · rename_i ds hd
      refine ⟨by rw [r1.len, hl]; exact hn, fun p o np no => ?_⟩
      have e2 : Ext none L1 H1 (upd L1 p (.frz o (.tup vs))) (upd H1 p (.frz o (.tup vs))) := Ext.new X1.lh np
      exact z _ _ _ (X1.step e2 (same_both X1.lh)) (e1.trans e2.any) (.tup ⟨o, no, upd_same⟩ ((shs_ok r1 hd).to e2.ll))
    · exact z.elim
theorem se_lst {n : Nat} {t : TA} {f : DTA} (hf : SA w n t f) (hn : n ≤ sizeLine := by decide) : SE w (tLst t) (dLst f) := by
  constructor
  · intro ε A B h z
    refine hf.mono _ _ _ (fun rs ε1 z => ?_) z
    split at z
    · exact h _ _ z
    · exact z.elim
  · intro Z O σ ε L H Q X z
    refine hf.run Z O σ ε L H _ X (hf.mono _ _ _ (fun rs ε1 z => ?_) z)
    intro vs L1 H1 X1 e1 r1 hl np
    split at z
    · rename_i ds hd
      refine ⟨by rw [r1.len, hl]; exact hn, fun p np => ?_⟩
      have e2 : Ext none L1 H1 L1 (upd H1 p (.lst vs)) := Ext.own np
      refine z _ _ _ (X1.step e2 (same_own X1.lh (X1.lh.free np))) (e1.trans e2.any) (VR.back (VR0.vr (r := .nw ds) ⟨p, vs, rfl, np, X1.lh.free np, upd_same, shs_ok r1 hd⟩ X1) e1)
    · exact z.elim
/-! ### calls of built-ins -/
def dats : List R → Option (List PyData)
  | [] => some []
  | r :: rs => match r.dat, dats rs with
    | some d, some ds => some (d :: ds)
    | _, _ => none
inductive VLs (L H : Hp) : List V → List PyData → Prop
  | nil : VLs L H [] []
  | cons {v : V} {vs : List V} {d : PyData} {ds : List PyData} : VL L H v d → VLs L H vs ds → VLs L H (v :: vs) (d :: ds)
theorem dats_ok {Z : Zx} {O : Addr → Prop} {σ : L2.St} {Hs L H : Hp} : ∀ {rs : List R} {vs : List V} {ds : List PyData}, VRs w Z O σ Hs L H vs rs → dats rs = some ds → VLs L H vs ds
  | [], _, _, .nil, e => by cases e; exact .nil
  | r :: rs, _, ds, .cons a b, e => by
    unfold dats at e
    split at e
    · rename_i d es h1 h2
      cases e
      exact .cons (a.vl h1) (dats_ok b h2)
    · cases e
structure RCK (r : List V → Hp → VK → Prop) (φ : List PyData → (R → Prop) → Prop) : Prop where
  mono : ∀ x (A B : R → Prop), (∀ r, A r → B r) → φ x A → φ x B
  run : ∀ (L H : Hp) (xs : List V) (ds : List PyData) (Q : VK), Same L H → VLs L H xs ds → φ ds (fun r => ∀ v L' H', Ext none L H L' H' → Same L' H' → VR0 H L' H' v r → Q v H') → r xs H Q
def dCB (φ : List PyData → (R → Prop) → Prop) (f : DTA)  (ε : Env) (Q : R → Env → Prop) : Prop := f ε fun rs ε1 => match dats rs with
  | some ds => φ ds fun r => Q r ε1
  | _ => False
theorem se_cb {n : Nat} {t : TA} {f : DTA} {r : List V → Hp → VK → Prop} {φ : List PyData → (R → Prop) → Prop} (k : RCK r φ) (hf : SA w n t f) : SE w (tCB r t) (dCB φ f) := by
  constructor
  · intro ε A B h z
    refine hf.mono _ _ _ (fun rs ε1 z => ?_) z
    split at z
    · exact k.mono _ _ _ (fun r q => h _ _ q) z
    · exact z.elim
  · intro Z O σ ε L H Q X z
    refine hf.run Z O σ ε L H _ X (hf.mono _ _ _ (fun rs ε1 z => ?_) z)
    intro vs L1 H1 X1 e1 r1 hl np
    split at z
    · rename_i ds hd
      refine k.run L1 H1 vs ds Q X1.lh (dats_ok r1 hd) (k.mono _ _ _ (fun r q => ?_) z)
      intro z L3 H3 e3 s3 r3
      exact q z L3 H3 (X1.step e3 s3) (e1.trans e3.any) ((r3.vr X1).back e1)
    · exact z.elim
/-! ### slices -/
abbrev DTO := Env → (Option Int → Env → Prop) → Prop
structure SO (w : World) (t : TO) (f : DTO) : Prop where
  mono : ∀ ε (A B : Option Int → Env → Prop), (∀ r ε', A r ε' → B r ε') → f ε A → f ε B
  run : ∀ (Z : Zx) (O : Addr → Prop) (σ : L2.St) (ε : Env) (L H : Hp) (Q : Option Int → Hp → Prop), Rep w Z O L H σ ε → f ε (fun b ε' => ∀ L' H', Rep w Z O L' H' σ ε' → Ext Z.b L H L' H' → Q b H') → t σ H Q
def dNoP  (ε : Env) (Q : Option Int → Env → Prop) : Prop := Q none ε
def dPart (f : DTE)  (ε : Env) (Q : Option Int → Env → Prop) : Prop := f ε fun r ε1 => match r.dat with
  | some (.int i) => Q (some i) ε1
  | _ => False
theorem so_none : SO w tNoPart dNoP := ⟨fun ε A B h q => h _ _ q, fun Z O σ ε L H Q X z => z L H X (Ext.refl _ _ _)⟩
theorem so_some (hf : SE w ta f) : SO w (tPart ta) (dPart f) := by
  constructor
  · intro ε A B h q
    refine hf.mono _ _ _ (fun r ε1 q => ?_) q
    split at q
    · exact h _ _ q
    · exact q.elim
  · intro Z O σ ε L H Q X q
    refine hf.run Z O σ ε L H _ X (hf.mono _ _ _ (fun r ε1 q => ?_) q)
    intro v L1 H1 X1 e1 r1
    split at q
    · rename_i k ek
      exact ⟨k, (r1.vl ek).int, q L1 H1 X1 e1⟩
    · exact q.elim
structure RSK (r : V → Option Int → Option Int → Hp → VK → Prop) (φ : PyData → Option Int → Option Int → (R → Prop) → Prop) : Prop where
  mono : ∀ x l h (A B : R → Prop), (∀ r, A r → B r) → φ x l h A → φ x l h B
  run : ∀ (L H : Hp) (x : V) (d : PyData) (l h : Option Int) (Q : VK), Same L H → VL L H x d → φ d l h (fun r => ∀ v L' H', Ext none L H L' H' → Same L' H' → VR0 H L' H' v r → Q v H') → r x l h H Q
def dSl (φ : PyData → Option Int → Option Int → (R → Prop) → Prop) (f : DTE) (l h : DTO)  (ε : Env) (Q : R → Env → Prop) : Prop := f ε fun r ε1 => l ε1 fun i ε2 => h ε2 fun j ε3 => match r.dat with
  | some d => φ d i j fun r => Q r ε3
  | _ => False
theorem se_sl {r : V → Option Int → Option Int → Hp → VK → Prop} {φ : PyData → Option Int → Option Int → (R → Prop) → Prop} {tl th : TO} {l h : DTO} (k : RSK r φ) (hf : SE w ta f) (hl : SO w tl l) (hh : SO w th h) : SE w (tSl r ta tl th) (dSl φ f l h) := by
  constructor
  · intro ε A B hAB z
    refine hf.mono _ _ _ (fun r ε1 z => hl.mono _ _ _ (fun i ε2 z => hh.mono _ _ _ (fun j ε3 z => ?_) z) z) z
    split at z
    · exact k.mono _ _ _ _ _ (fun r q => hAB _ _ q) z
    · exact z.elim
  · intro Z O σ ε L H Q X z
    refine hf.run Z O σ ε L H _ X (hf.mono _ _ _ (fun r ε1 z => ?_) z)
    intro v L1 H1 X1 e1 r1
    refine hl.run Z O σ ε1 L1 H1 _ X1 (hl.mono _ _ _ (fun i ε2 z => ?_) z)
    intro L2 H2 X2 e2
    refine hh.run Z O σ ε2 L2 H2 _ X2 (hh.mono _ _ _ (fun j ε3 z => ?_) z)
    intro L3 H3 X3 e3
    have r3 := (r1.mono X1 e2).mono X2 e3
    split at z
    · rename_i d hd
      have et := (e1.trans e2).trans e3
      refine k.run L3 H3 v d i j Q X3.lh (r3.vl hd) (k.mono _ _ _ _ _ (fun r q => ?_) z)
      intro z L4 H4 e4 s4 r4
      exact q z L4 H4 (X3.step e4 s4) (et.trans e4.any) ((r4.vr X3).back et)
    · exact z.elim
end
end Lp

namespace Lp
open PySem PySem.Spec PyProof.Rows L2
/-! ### statements as data -/
structure DEnds where
  nx : Env → Prop
  rt : R → Env → Prop
  bk : Env → Prop := fun _ => False
  ct : Env → Prop := fun _ => False
structure DEnds.le (A B : DEnds) : Prop where
  nx : ∀ ε, A.nx ε → B.nx ε
  rt : ∀ r ε, A.rt r ε → B.rt r ε
  bk : ∀ ε, A.bk ε → B.bk ε
  ct : ∀ ε, A.ct ε → B.ct ε
theorem DEnds.le.refl (A : DEnds) : A.le A := ⟨fun _ h => h, fun _ _ h => h, fun _ h => h, fun _ h => h⟩
abbrev DTS := DEnds → Env → Prop
structure EndsOk (w : World) (Z : Zx) (D : Ends) (Δ : DEnds) : Prop where
  nx : ∀ (O : Addr → Prop) (σ : L2.St) (ε : Env) (L H : Hp), Rep w Z O L H σ ε → Δ.nx ε → D.nx σ H
  rt : ∀ (O : Addr → Prop) (σ : L2.St) (ε : Env) (L H : Hp) (v : V) (r : R), Rep w Z O L H σ ε → VR0 Z.H0 L H v r → Δ.rt r ε → D.rt v H
  bk : ∀ (O : Addr → Prop) (σ : L2.St) (ε : Env) (L H : Hp), Rep w Z O L H σ ε → Δ.bk ε → D.bk σ H
  ct : ∀ (O : Addr → Prop) (σ : L2.St) (ε : Env) (L H : Hp), Rep w Z O L H σ ε → Δ.ct ε → D.ct σ H
structure SS (w : World) (t : TS) (f : DTS) : Prop where
  mono : ∀ Δ Δ' ε, DEnds.le Δ Δ' → f Δ ε → f Δ' ε
  run : ∀ (Z : Zx) (O : Addr → Prop) (σ : L2.St) (ε : Env) (L H : Hp) (D : Ends) (Δ : DEnds), Rep w Z O L H σ ε → EndsOk w Z D Δ → f Δ ε → t D σ H
section
variable {w : World} {Z : Zx} {O : Addr → Prop} {σ : L2.St} {ε : Env} {L H : Hp}
theorem get_set {α : Type} {l : List α} {i j : Nat} {x y : α} (h : (l.set i x)[j]? = some y) : (i = j ∧ y = x ∧ j < l.length) ∨ (i ≠ j ∧ l[j]? = some y) := by
  rw [List.getElem?_set] at h
  split at h
  · rename_i e
    subst e
    split at h
    · cases h; exact .inl ⟨rfl, rfl, by assumption⟩
    · cases h
  · rename_i e
    exact .inr ⟨e, h⟩
/-- a slot takes a value -/
theorem Rep.put0 (x : Rep w Z O L H σ ε) {i : Nat} {v : V} {y : SV} (O' : Addr → Prop) (ho : ∀ a, O a → O' a) (hn : ∀ a, O' a → H a ≠ none ∧ Z.H0 a = none) (h : SlotR w Z O' L H (some v) y) (hd : Own y = true → ∀ a, v = .ref a → ¬ O a) : Rep w Z O' L H (σ.set i (some v)) (ε.set i y) := by
  have own : ∀ (j : Nat) (z : SV) (a : Addr), ε.s[j]? = some z → Own z = true → σ[j]? = some (some (.ref a)) → O a := by
    intro j z a hz ho ha
    obtain ⟨o, h1, h2⟩ := x.sl j z hz
    rw [ha] at h1
    cases h1
    cases z with
    | ow ds => obtain ⟨b, xs, e, h3, _⟩ := h2; cases e; exact h3
    | st S n => obtain ⟨b, e, h3, _⟩ := h2; cases e; exact h3
    | _ => cases ho
  refine ⟨x.lh, x.pn, x.ex, x.bo, hn, ?_, fun j z hz => ?_, fun j k z z' a hjk hz hz' oz oz' hj hk => ?_⟩
  · show (σ.set i (some v)).length = (ε.s.set i y).length
    rw [List.length_set, List.length_set]; exact x.len
  · rcases get_set hz with ⟨rfl, rfl, hl⟩ | ⟨ne, hz⟩
    · refine ⟨some v, ?_, h⟩
      rw [List.getElem?_set, if_pos rfl, if_pos (by rw [x.len]; exact hl)]
    · obtain ⟨o, h1, h2⟩ := x.sl j z hz
      refine ⟨o, by rw [List.getElem?_set, if_neg ne]; exact h1, ?_⟩
      cases z with
      | ow ds => obtain ⟨a, xs, e1, e2, e3⟩ := h2; exact ⟨a, xs, e1, ho a e2, e3⟩
      | st S n => obtain ⟨a, e1, e2, e3⟩ := h2; exact ⟨a, e1, ho a e2, e3⟩
      | _ => exact h2
  · rcases get_set hz with ⟨rfl, rfl, hl⟩ | ⟨ne, hz1⟩
    · rcases get_set hz' with ⟨rfl, _, _⟩ | ⟨ne', hz'⟩
      · exact hjk rfl
      · rw [List.getElem?_set, if_pos rfl, if_pos (by rw [x.len]; exact hl)] at hj
        rw [List.getElem?_set, if_neg ne'] at hk
        exact hd oz a (Option.some.inj (Option.some.inj hj)) (own k z' a hz' oz' hk)
    · rw [List.getElem?_set, if_neg ne] at hj
      rcases get_set hz' with ⟨e1, e2, hl⟩ | ⟨ne', hz2⟩
      · subst e1
        subst e2
        rw [List.getElem?_set, if_pos rfl, if_pos (by rw [x.len]; exact hl)] at hk
        exact hd oz' a (Option.some.inj (Option.some.inj hk)) (own j z a hz1 oz hj)
      · rw [List.getElem?_set, if_neg ne'] at hk
        exact x.di j k z z' a hjk hz1 hz2 oz oz' hj hk
theorem Rep.sh (x : Rep w Z O L H σ ε) {i : Nat} {v : V} {d : PyData} (h : DV L v d) : Rep w Z O L H (σ.set i (some v)) (ε.set i (.sh d)) :=
  x.put0 O (fun _ h => h) x.oh ⟨v, rfl, h⟩ (fun z => nomatch z)
theorem Rep.rawS (x : Rep w Z O L H σ ε) {i : Nat} {v : V} : Rep w Z O L H (σ.set i (some v)) (ε.set i (.raw v)) :=
  x.put0 O (fun _ h => h) x.oh rfl (fun z => nomatch z)
/-- what is stored of a value: own or for all to see -/
def val (own : Bool) : R → Option SV
  | .sh d => some (.sh d)
  | .nw ds => some (if own = true then .ow ds else .sh (.list ds))
  | .raw v => some (.raw v)
  | _ => none
/-- a new list at a -/
def nwAt (r : R) (v : V) (a : Addr) : Prop := (∃ ds, r = .nw ds) ∧ v = .ref a
theorem Rep.put {Hs : Hp} (x : Rep w Z O L H σ ε) {i : Nat} {own : Bool} {v : V} {r : R} {y : SV} (h : VR w Z O σ Hs L H v r) (hy : val own r = some y) : ∃ O' L', Rep w Z O' L' H (σ.set i (some v)) (ε.set i y) ∧ Same L L' ∧ (∀ a, L a = none → ¬ nwAt r v a → L' a = none) ∧ ∀ a, O' a → O a ∨ nwAt r v a := by
  cases r with
  | sh d =>
    cases hy
    exact ⟨O, L, x.sh h, Same.refl L, fun a h _ => h, fun a h => .inl h⟩
  | nw ds =>
    cases own with
    | true =>
      cases hy
      obtain ⟨a, xs, rfl, h1, h2, h3, h4, h5, h6⟩ := h
      refine ⟨fun b => O b ∨ b = a, L, x.put0 (fun b => O b ∨ b = a) (fun b h => .inl h) (fun b hb => ?_) ⟨a, xs, rfl, .inr rfl, h4, h3, h5, h6⟩ (fun _ b e => by cases e; exact h2), Same.refl L, fun b h _ => h, fun b hb => hb.imp id fun z => ⟨⟨_, rfl⟩, by rw [z]⟩⟩
      rcases hb with hb | rfl
      · exact x.oh b hb
      · exact ⟨by rw [h5]; exact (fun z => nomatch z), h3⟩
    | false =>
      cases hy
      have h' := h
      obtain ⟨a, xs, rfl, h1, h2, h3, h4, h5, h6⟩ := h'
      have s1 : Same L (upd L a (.lst xs)) := same_upd h4
      obtain ⟨L2, X2, e2, d2⟩ : ∃ L2, Rep w Z O L2 H σ ε ∧ L2 = upd L a (.lst xs) ∧ DV L2 (.ref a) (.list ds) := by
        refine ⟨_, ⟨same_pub x.lh h5, x.pn.trans s1, ⟨x.ex.ll.trans s1, x.ex.hh, x.ex.dom, fun b hb hd => ?_⟩, fun b hb => ?_, x.oh, x.len, fun i y hy => ?_, x.di⟩, rfl, .lst upd_same (h6.to s1)⟩
        · rw [upd_ne (ne_at hd h3)]; exact x.ex.fr b hb hd
        · obtain ⟨q1, q2, q3⟩ := x.bo b hb
          exact ⟨by rw [upd_ne (ne_at q3 h3)]; exact q1, q2, q3⟩
        · obtain ⟨o, q1, q2⟩ := x.sl i y hy
          refine ⟨o, q1, ?_⟩
          cases y with
          | un => trivial
          | sh d =>
            obtain ⟨v, e1, e2⟩ := q2
            exact ⟨v, e1, e2.to s1⟩
          | ow ds =>
            obtain ⟨b, ys, e1, e2, e3, e4, e5, e6⟩ := q2
            exact ⟨b, ys, e1, e2, by rw [upd_ne (fun z => h2 (by rw [← z]; exact e2))]; exact e3, e4, e5, e6.to s1⟩
          | bx => exact q2
          | st S n =>
            obtain ⟨b, e1, e2, e3, e4, e5⟩ := q2
            exact ⟨b, e1, e2, by rw [upd_ne (fun z => h2 (by rw [← z]; exact e2))]; exact e3, e4, e5⟩
          | raw u => exact q2
      refine ⟨O, L2, X2.sh d2, by rw [e2]; exact s1, fun b hb nb => ?_, fun b hb => .inl hb⟩
      rw [e2, upd_ne (fun z => nb ⟨⟨_, rfl⟩, by rw [z]⟩)]; exact hb
  | raw u =>
    cases hy
    cases (show v = u from h)
    exact ⟨O, L, x.rawS, Same.refl L, fun a h _ => h, fun a h => .inl h⟩
  | br i ds => cases hy
  | bx => cases hy
  | sr i S n => cases hy
end
section
variable {w : World} {ta tb tc : TE} {f g h : DTE} {t u : TS} {p q : DTS}
def dNext  (Δ : DEnds) (ε : Env) : Prop := Δ.nx ε
theorem ss_next : SS w tNext dNext := ⟨fun _ _ ε l z => l.nx ε z, fun Z O σ ε L H D Δ X E z => E.nx O σ ε L H X z⟩
def dSeq (p q : DTS)  (Δ : DEnds) (ε : Env) : Prop := p { Δ with nx := q Δ } ε
theorem ss_seq (hp : SS w t p) (hq : SS w u q) : SS w (tSeq t u) (dSeq p q) :=
  ⟨fun Δ Δ' ε l z => hp.mono { Δ with nx := q Δ } _ ε ⟨fun ε z => hq.mono _ _ ε l z, l.rt, l.bk, l.ct⟩ z,
   fun Z O σ ε L H D Δ X E z => hp.run Z O σ ε L H _ { Δ with nx := q Δ } X ⟨fun O σ ε L H X z => hq.run Z O σ ε L H D Δ X E z, E.rt, E.bk, E.ct⟩ z⟩
def dBreak  (Δ : DEnds) (ε : Env) : Prop := Δ.bk ε
def dCont  (Δ : DEnds) (ε : Env) : Prop := Δ.ct ε
theorem ss_break : SS w tBreak dBreak := ⟨fun _ _ ε l z => l.bk ε z, fun Z O σ ε L H D Δ X E z => E.bk O σ ε L H X z⟩
theorem ss_cont : SS w tCont dCont := ⟨fun _ _ ε l z => l.ct ε z, fun Z O σ ε L H D Δ X E z => E.ct O σ ε L H X z⟩
def dNever  (_ : DEnds) (_ : Env) : Prop := False
theorem ss_never : SS w tNever dNever := ⟨fun _ _ _ _ z => z, fun Z O σ ε L H D Δ X E z => z⟩
def dDrop (f : DTE)  (Δ : DEnds) (ε : Env) : Prop := f ε fun _ ε1 => Δ.nx ε1
theorem ss_drop (hf : SE w ta f) : SS w (tDrop ta) (dDrop f) :=
  ⟨fun Δ Δ' ε l z => hf.mono _ _ _ (fun _ ε1 z => l.nx ε1 z) z,
   fun Z O σ ε L H D Δ X E z => hf.run Z O σ ε L H _ X (hf.mono _ _ _ (fun _ ε1 z v L1 H1 X1 e1 r1 => E.nx O σ ε1 L1 H1 X1 z) z)⟩
def R.ret : R → Option R
  | .sh d => some (.sh d)
  | .nw ds => some (.nw ds)
  | .br _ ds => some (.nw ds)
  | _ => none
def dRet (f : DTE)  (Δ : DEnds) (ε : Env) : Prop := f ε fun r ε1 => match r.ret with
  | some r => Δ.rt r ε1
  | none => False
theorem VR.ret {Z : Zx} {O : Addr → Prop} {σ : L2.St} {Hs L H : Hp} {v : V} {r r' : R} (x : VR w Z O σ Hs L H v r) (e : r.ret = some r') : VR0 Z.H0 L H v r' := by
  cases r with
  | sh d => cases e; exact x
  | nw ds =>
    cases e
    obtain ⟨a, xs, rfl, h1, h2, h3, h4, h5, h6⟩ := x
    exact ⟨a, xs, rfl, h3, h4, h5, h6⟩
  | br i ds =>
    cases e
    obtain ⟨a, xs, rfl, h1, h2, h3, h4, h5, h6⟩ := x
    exact ⟨a, xs, rfl, h3, h4, h5, h6⟩
  | bx => cases e
  | raw u => cases e
  | sr i S n => cases e
theorem ss_ret (hf : SE w ta f) : SS w (tRet ta) (dRet f) := by
  constructor
  · intro Δ Δ' ε l z
    refine hf.mono _ _ _ (fun r ε1 z => ?_) z
    split at z
    · exact l.rt _ _ z
    · exact z.elim
  · intro Z O σ ε L H D Δ X E z
    refine hf.run Z O σ ε L H _ X (hf.mono _ _ _ (fun r ε1 z => ?_) z)
    intro v L1 H1 X1 e1 r1
    split at z
    · rename_i r' hr
      exact E.rt O σ ε1 L1 H1 v r' X1 (r1.ret hr) z
    · exact z.elim
def dRetN  (Δ : DEnds) (ε : Env) : Prop := Δ.rt (.sh .none) ε
theorem ss_retN : SS w tRetN dRetN := ⟨fun _ _ ε l z => l.rt _ ε z, fun Z O σ ε L H D Δ X E z => E.rt O σ ε L H _ (.sh .none) X DV.non z⟩
def dIfS (c : DTT) (p q : DTS)  (Δ : DEnds) (ε : Env) : Prop := c ε fun b ε1 => if b = true then p Δ ε1 else q Δ ε1
theorem ss_if {c : TT} {k : DTT} (hc : ST w c k) (hp : SS w t p) (hq : SS w u q) : SS w (tIfS c t u) (dIfS k p q) := by
  constructor
  · intro Δ Δ' ε l z
    refine hc.mono _ _ _ (fun b ε1 z => ?_) z
    cases b with
    | true => exact iteT (hp.mono _ _ _ l (by rw [if_pos rfl] at z; exact z))
    | false => exact iteF (hq.mono _ _ _ l (by rw [if_neg Bool.false_ne_true] at z; exact z))
  · intro Z O σ ε L H D Δ X E z
    refine hc.run Z O σ ε L H _ X (hc.mono _ _ _ (fun b ε1 z => ?_) z)
    intro L1 H1 X1 e1
    cases b with
    | true => exact iteT (hp.run Z O σ ε1 L1 H1 D Δ X1 E (by rw [if_pos rfl] at z; exact z))
    | false => exact iteF (hq.run Z O σ ε1 L1 H1 D Δ X1 E (by rw [if_neg Bool.false_ne_true] at z; exact z))
/-! ### stores -/
def dSetG (own : Bool) (i : Nat) (f : DTE)  (Δ : DEnds) (ε : Env) : Prop := f ε fun r ε1 => match val own r with
  | some x => Δ.nx (ε1.set i x)
  | none => False
abbrev dSet := dSetG false
abbrev dSetO := dSetG true
theorem ss_set (own : Bool) {i : Nat} (hf : SE w ta f) : SS w (tAsg ta (gName i)) (dSetG own i f) := by
  constructor
  · intro Δ Δ' ε l z
    refine hf.mono _ _ _ (fun r ε1 z => ?_) z
    split at z
    · exact l.nx _ z
    · exact z.elim
  · intro Z O σ ε L H D Δ X E z
    refine hf.run Z O σ ε L H _ X (hf.mono _ _ _ (fun r ε1 z => ?_) z)
    intro v L1 H1 X1 e1 r1
    split at z
    · rename_i x hx
      obtain ⟨O', L', X', _⟩ := X1.put (i := i) r1 hx
      exact E.nx O' _ _ L' H1 X' z
    · exact z.elim
def dPar (i : Nat) (oi : Bool) (j : Nat) (oj : Bool) (f g : DTE)  (Δ : DEnds) (ε : Env) : Prop := f ε fun x ε1 => g ε1 fun y ε2 => match val oi x, val oj y with
  | some a, some b => Δ.nx ((ε2.set i a).set j b)
  | _, _ => False
theorem VR.setσ {Z : Zx} {O O' : Addr → Prop} {σ σ' : L2.St} {Hs L L' H : Hp} {v : V} {r : R} (N : Addr → Prop) (x : VR w Z O σ Hs L H v r) {own : Bool} {y : SV} (hy : val own r = some y) (s : Same L L') (hl : ∀ a, L a = none → ¬ N a → L' a = none) (ho : ∀ a, O' a → O a ∨ N a) (hu : ∀ a, N a → Hs a ≠ none) : VR w Z O' σ' Hs L' H v r := by
  cases r with
  | sh d => exact DV.to x s
  | nw ds =>
    obtain ⟨a, xs, rfl, h1, h2, h3, h4, h5, h6⟩ := x
    have ne : ¬ N a := fun z => hu a z h1
    exact ⟨a, xs, rfl, h1, fun o => (ho a o).elim h2 ne, h3, hl a h4 ne, h5, h6.to s⟩
  | raw u => exact x
  | br i ds => cases hy
  | bx => cases hy
  | sr i S n => cases hy
theorem VR.nwAt {Z : Zx} {O : Addr → Prop} {σ : L2.St} {Hs L H : Hp} {v : V} {r : R} {a : Addr} (x : VR w Z O σ Hs L H v r) (e : Lp.nwAt r v a) : H a ≠ none := by
  obtain ⟨⟨ds, rfl⟩, rfl⟩ := e
  obtain ⟨b, xs, e, h1, h2, h3, h4, h5, h6⟩ := x
  cases e
  rw [h5]; exact fun z => nomatch z
theorem two_put {Z : Zx} {O : Addr → Prop} {σ : L2.St} {ε : Env} {H L1 H1 L2 H2 : Hp} {v u : V} {x y : R} {oi oj : Bool} {i j : Nat} {a b : SV} (X2 : Rep w Z O L2 H2 σ ε) (r1 : VR w Z O σ H L1 H1 v x) (r1' : VR w Z O σ H L2 H2 v x) (r2 : VR w Z O σ H1 L2 H2 u y) (ha : val oi x = some a) (hb : val oj y = some b) :
    ∃ O' L', Rep w Z O' L' H2 ((σ.set i (some v)).set j (some u)) ((ε.set i a).set j b) ∧ Same L2 L' ∧ (∀ a, L2 a = none → ¬ (nwAt x v a ∨ nwAt y u a) → L' a = none) ∧ ∀ a, O' a → O a ∨ nwAt x v a ∨ nwAt y u a := by
  obtain ⟨O', L', X3, s3, hl3, ho3⟩ := X2.put (i := i) r1' ha
  have r2' : VR w Z O' (σ.set i (some v)) H1 L' H2 u y := r2.setσ (nwAt x v) hb s3 hl3 ho3 fun a ea => r1.nwAt ea
  obtain ⟨O2, L3, X4, s4, hl4, ho4⟩ := X3.put (i := j) r2' hb
  refine ⟨O2, L3, X4, s3.trans s4, fun a h n => hl4 a (hl3 a h (fun z => n (.inl z))) (fun z => n (.inr z)), fun a h => ?_⟩
  rcases ho4 a h with q | q
  · exact (ho3 a q).imp id .inl
  · exact .inr (.inr q)
theorem ss_par {i j : Nat} {oi oj : Bool} (hf : SE w ta f) (hg : SE w tb g) : SS w (tPar i j (tCons ta (tCons tb tNil))) (dPar i oi j oj f g) := by
  constructor
  · intro Δ Δ' ε l z
    refine hf.mono _ _ _ (fun x ε1 z => hg.mono _ _ _ (fun y ε2 z => ?_) z) z
    split at z
    · exact l.nx _ z
    · exact z.elim
  · intro Z O σ ε L H D Δ X E z
    refine hf.run Z O σ ε L H _ X (hf.mono _ _ _ (fun x ε1 z => ?_) z)
    intro v L1 H1 X1 e1 r1
    refine hg.run Z O σ ε1 L1 H1 _ X1 (hg.mono _ _ _ (fun y ε2 z => ?_) z)
    intro u L2 H2 X2 e2 r2
    split at z
    · rename_i a b ha hb
      obtain ⟨O', L', X', _⟩ := two_put (i := i) (j := j) X2 r1 (r1.mono X1 e2) r2 ha hb
      exact ⟨v, u, rfl, E.nx O' _ _ L' H2 X' z⟩
    · exact z.elim
/-- the same where the pair is made and taken apart -/
theorem ss_parT {K : PySem.W.Frag} {i j : Nat} {oi oj : Bool} (hf : SE w ta f) (hg : SE w tb g) : SS w (tAsg (tTupS (tCons ta (tCons tb tNil))) (gTup K 2 (gCons (gName i) (gCons (gName j) gNil)))) (dPar i oi j oj f g) := by
  constructor
  · exact (ss_par hf hg).mono
  · intro Z O σ ε L H D Δ X E z
    refine hf.run Z O σ ε L H _ X (hf.mono _ _ _ (fun x ε1 z => ?_) z)
    intro v L1 H1 X1 e1 r1
    refine hg.run Z O σ ε1 L1 H1 _ X1 (hg.mono _ _ _ (fun y ε2 z => ?_) z)
    intro u L2 H2 X2 e2 r2
    split at z
    · rename_i a b ha hb
      refine ⟨by show 2 ≤ sizeLine; decide, fun p o np no => ⟨p, _, rfl, Sol.seq ⟨o, no, upd_same⟩, rfl, v, _, rfl, u, _, rfl, rfl, ?_⟩⟩
      have e3 : Ext none L2 H2 L2 (upd H2 p (.frz o (.tup [v, u]))) := Ext.own np
      have X3 := X2.step e3 (same_own X2.lh (X2.lh.free np))
      obtain ⟨O', L', X', _⟩ := two_put (i := i) (j := j) X3 r1 ((r1.mono X1 e2).mono X2 e3.any) (r2.mono X2 e3.any) ha hb
      exact E.nx O' _ _ L' _ X' z
    · exact z.elim
def dPar3 (i : Nat) (oi : Bool) (j : Nat) (oj : Bool) (k : Nat) (ok : Bool) (f g h : DTE)  (Δ : DEnds) (ε : Env) : Prop := f ε fun x ε1 => g ε1 fun y ε2 => h ε2 fun z ε3 => match val oi x, val oj y, val ok z with
  | some a, some b, some c => Δ.nx (((ε3.set i a).set j b).set k c)
  | _, _, _ => False
theorem three_put {Z : Zx} {O : Addr → Prop} {σ : L2.St} {ε : Env} {H L1 H1 L2 H2 L3 H3 : Hp} {v u s : V} {x y z : R} {oi oj ok : Bool} {i j k : Nat} {a b c : SV} (X3 : Rep w Z O L3 H3 σ ε) (r1 : VR w Z O σ H L1 H1 v x) (r2 : VR w Z O σ H1 L2 H2 u y) (d12 : ∀ a, H1 a ≠ none → H2 a ≠ none) (r1' : VR w Z O σ H L3 H3 v x) (r2' : VR w Z O σ H1 L3 H3 u y) (r3 : VR w Z O σ H2 L3 H3 s z) (ha : val oi x = some a) (hb : val oj y = some b) (hc : val ok z = some c) :
    ∃ O' L', Rep w Z O' L' H3 (((σ.set i (some v)).set j (some u)).set k (some s)) (((ε.set i a).set j b).set k c) := by
  obtain ⟨O', L', X', s1, hl, ho⟩ := two_put (i := i) (j := j) X3 r1 r1' r2' ha hb
  have r3' : VR w Z O' ((σ.set i (some v)).set j (some u)) H2 L' H3 s z := r3.setσ (fun a => nwAt x v a ∨ nwAt y u a) hc s1 hl ho fun a ea => ea.elim (fun q => d12 a (r1.nwAt q)) fun q => r2.nwAt q
  obtain ⟨O2, L2', X2', _⟩ := X'.put (i := k) r3' hc
  exact ⟨O2, L2', X2'⟩
theorem ss_par3 {i j k : Nat} {oi oj ok : Bool} (hf : SE w ta f) (hg : SE w tb g) (hh : SE w tc h) : SS w (tPar3 i j k (tCons ta (tCons tb (tCons tc tNil)))) (dPar3 i oi j oj k ok f g h) := by
  constructor
  · intro Δ Δ' ε l z
    refine hf.mono _ _ _ (fun x ε1 z => hg.mono _ _ _ (fun y ε2 z => hh.mono _ _ _ (fun q ε3 z => ?_) z) z) z
    split at z
    · exact l.nx _ z
    · exact z.elim
  · intro Z O σ ε L H D Δ X E z
    refine hf.run Z O σ ε L H _ X (hf.mono _ _ _ (fun x ε1 z => ?_) z)
    intro v L1 H1 X1 e1 r1
    refine hg.run Z O σ ε1 L1 H1 _ X1 (hg.mono _ _ _ (fun y ε2 z => ?_) z)
    intro u L2 H2 X2 e2 r2
    refine hh.run Z O σ ε2 L2 H2 _ X2 (hh.mono _ _ _ (fun q ε3 z => ?_) z)
    intro s L3 H3 X3 e3 r3
    split at z
    · rename_i a b c ha hb hc
      obtain ⟨O', L', X'⟩ := three_put (i := i) (j := j) (k := k) X3 r1 r2 e2.dom ((r1.mono X1 e2).mono X2 e3) (r2.mono X2 e3) r3 ha hb hc
      exact ⟨v, u, s, rfl, E.nx O' _ _ L' H3 X' z⟩
    · exact z.elim
/-- the same where the triple is made and taken apart -/
theorem ss_parT3 {K : PySem.W.Frag} {i j k : Nat} {oi oj ok : Bool} (hf : SE w ta f) (hg : SE w tb g) (hh : SE w tc h) : SS w (tAsg (tTupS (tCons ta (tCons tb (tCons tc tNil)))) (gTup K 3 (gCons (gName i) (gCons (gName j) (gCons (gName k) gNil))))) (dPar3 i oi j oj k ok f g h) := by
  constructor
  · exact (ss_par3 hf hg hh).mono
  · intro Z O σ ε L H D Δ X E z
    refine hf.run Z O σ ε L H _ X (hf.mono _ _ _ (fun x ε1 z => ?_) z)
    intro v L1 H1 X1 e1 r1
    refine hg.run Z O σ ε1 L1 H1 _ X1 (hg.mono _ _ _ (fun y ε2 z => ?_) z)
    intro u L2 H2 X2 e2 r2
    refine hh.run Z O σ ε2 L2 H2 _ X2 (hh.mono _ _ _ (fun q ε3 z => ?_) z)
    intro s L3 H3 X3 e3 r3
    split at z
    · rename_i a b c ha hb hc
      refine ⟨by show 3 ≤ sizeLine; decide, fun p o np no => ⟨p, _, rfl, Sol.seq ⟨o, no, upd_same⟩, rfl, v, _, rfl, u, _, rfl, s, _, rfl, rfl, ?_⟩⟩
      have e4 : Ext none L3 H3 L3 (upd H3 p (.frz o (.tup [v, u, s]))) := Ext.own np
      have X4 := X3.step e4 (same_own X3.lh (X3.lh.free np))
      obtain ⟨O', L', X'⟩ := three_put (i := i) (j := j) (k := k) X4 r1 r2 e2.dom (((r1.mono X1 e2).mono X2 e3).mono X3 e4.any) ((r2.mono X2 e3).mono X3 e4.any) (r3.mono X3 e4.any) ha hb hc
      exact E.nx O' _ _ L' _ X' z
    · exact z.elim
end
end Lp

namespace Lp
open PySem PySem.Spec PyProof.Rows L2
/-! ### own lists change -/
section
variable {w : World} {Z : Zx} {O : Addr → Prop} {σ : L2.St} {ε : Env} {L H : Hp}
/-- the list of slot i changes -/
theorem Rep.mut (x : Rep w Z O L H σ ε) {i : Nat} {a : Addr} {y z : SV} {o : HO} (hi : ε.s[i]? = some y) (hy : Own y = true) (ha : σ[i]? = some (some (.ref a))) (h : SlotR w Z O L (upd H a o) (some (.ref a)) z) : Rep w Z O L (upd H a o) σ (ε.set i z) ∧ L a = none ∧ Z.H0 a = none ∧ O a := by
  obtain ⟨o1, h1, h2⟩ := x.sl i y hi
  rw [ha] at h1
  cases h1
  have key : O a ∧ L a = none ∧ Z.H0 a = none := by
    cases y with
    | ow ds => obtain ⟨b, xs, e, k1, k2, k3, _⟩ := h2; cases e; exact ⟨k1, k2, k3⟩
    | st S n => obtain ⟨b, e, k1, k2, k3, _⟩ := h2; cases e; exact ⟨k1, k2, k3⟩
    | _ => cases hy
  obtain ⟨k1, k2, k3⟩ := key
  have nb : ∀ b, Z.b = some b → b ≠ a := fun b hb e => (x.bo b hb).2.2 (by rw [e]; exact k3)
  refine ⟨⟨same_own x.lh k2, x.pn, ⟨x.ex.ll, fun b u hb nb => ?_, fun b hb => ?_, x.ex.fr⟩, fun b hb => ?_, fun b hb => ⟨?_, (x.oh b hb).2⟩, ?_, fun j u hu => ?_, fun j k u u' b hjk hu hu' ou ou' => ?_⟩, k2, k3, k1⟩
  · rw [upd_ne (ne_of_none hb k3)]; exact x.ex.hh b u hb nb
  · by_cases q : b = a
    · rw [q, upd_same]; exact fun z => nomatch z
    · rw [upd_ne q]; exact x.ex.dom b hb
  · obtain ⟨q1, q2, q3⟩ := x.bo b hb
    exact ⟨q1, q2.keep (upd_ne (nb b hb)), q3⟩
  · by_cases q : b = a
    · rw [q, upd_same]; exact fun z => nomatch z
    · rw [upd_ne q]; exact (x.oh b hb).1
  · show σ.length = (ε.s.set i z).length
    rw [List.length_set]; exact x.len
  · rcases get_set hu with ⟨rfl, rfl, hl⟩ | ⟨ne, hu1⟩
    · exact ⟨_, ha, h⟩
    · obtain ⟨o2, g1, g2⟩ := x.sl j u hu1
      refine ⟨o2, g1, ?_⟩
      cases u with
      | ow ds =>
        obtain ⟨b, ys, e1, e2, e3, e4, e5, e6⟩ := g2
        subst e1
        have ba : b ≠ a := fun q => x.di i j y (.ow ds) a ne hi hu1 hy rfl ha (by rw [g1, q])
        exact ⟨b, ys, rfl, e2, e3, e4, by rw [upd_ne ba]; exact e5, e6⟩
      | st S n =>
        obtain ⟨b, e1, e2, e3, e4, e5⟩ := g2
        subst e1
        have ba : b ≠ a := fun q => x.di i j y (.st S n) a ne hi hu1 hy rfl ha (by rw [g1, q])
        exact ⟨b, rfl, e2, e3, e4, by rw [upd_ne ba]; exact e5⟩
      | _ => exact g2
  · have back : ∀ (j : Nat) (u : SV), (ε.set i z).s[j]? = some u → Own u = true → ∃ u', ε.s[j]? = some u' ∧ Own u' = true := fun j u hu ou => by
      rcases get_set hu with ⟨rfl, rfl, _⟩ | ⟨_, h⟩
      · exact ⟨y, hi, hy⟩
      · exact ⟨u, h, ou⟩
    obtain ⟨v, hv, ov⟩ := back j u hu ou
    obtain ⟨v', hv', ov'⟩ := back k u' hu' ou'
    exact x.di j k v v' b hjk hv hv' ov ov'
end
section
variable {w : World} {ta tb tc te : TE} {f g h : DTE} {t u : TS} {p q : DTS} {K : PySem.W.Frag}
/-- slot i held a list when its name was read -/
def isOw (ε : Env) (i : Nat) : Prop := ∃ ds, ε.s[i]? = some (.ow ds)
def dAppend (i : Nat) (f : DTE)  (Δ : DEnds) (ε : Env) : Prop := match ε.s[i]? with
  | some (.ow _) => f ε fun r ε1 => match r.pub, ε1.s[i]? with
    | .sh d, some (.ow ds) => ds.length < sizeLine ∧ Δ.nx (ε1.set i (.ow (ds ++ [d])))
    | _, _ => False
  | _ => False
theorem ss_append {i : Nat} (hf : SE w te f) : SS w (tDrop (tBM K "list" rAppend (tVar i) (tCons te tNil))) (dAppend i f) := by
  constructor
  · intro Δ Δ' ε l z
    unfold dAppend at z ⊢
    split at z
    · refine hf.mono _ _ _ (fun r ε1 z => ?_) z
      split at z
      · exact ⟨z.1, l.nx _ z.2⟩
      · exact z.elim
    · exact z.elim
  · intro Z O σ ε L H D Δ X E z
    unfold dAppend at z
    split at z
    · rename_i ds0 h0
      obtain ⟨o, h1, a, xs, h2, h3, h4, h5, h6, h7⟩ := X.sl i _ h0
      subst h2
      refine ⟨.ref a, h1, .inl ⟨rfl, _, SqL.of h6⟩, ?_⟩
      refine hf.run Z O σ ε L H _ X (hf.mono _ _ _ (fun r ε1 z => ?_) z)
      intro v L1 H1 X1 e1 r1
      split at z
      · rename_i d ds hd hs
        obtain ⟨L2, X2, e2, r2⟩ := publ X1 e1 r1
        rw [hd] at r2
        obtain ⟨o', g1, b, ys, g2, g3, g4, g5, g6, g7⟩ := X2.sl i _ hs
        subst g2
        rw [h1] at g1
        cases g1
        refine ⟨a, ys, v, rfl, rfl, g6, by rw [g7.len]; exact z.1, ?_⟩
        have X3 := (X2.mut (o := .lst (ys ++ [v])) hs rfl h1 (z := .ow (ds ++ [d])) ⟨a, _, rfl, g3, g4, g5, upd_same, g7.app (.one r2)⟩).1
        exact E.nx _ _ _ _ _ X3 z.2
      · exact z.elim
    · exact z.elim
/-- xs.append(ys.pop(e)) -/
def dAppPop (i j : Nat) (f : DTE)  (Δ : DEnds) (ε : Env) : Prop := match ε.s[i]?, ε.s[j]? with
  | some (.ow _), some (.ow _) => f ε fun r ε1 => match r.dat, ε1.s[i]?, ε1.s[j]? with
    | some (.int k), some (.ow ds), some (.ow es) => 0 ≤ k ∧ k < (es.length : Int) ∧ es.length < 1000000 ∧ ds.length < sizeLine ∧ ∃ d, es[k.toNat]? = some d ∧ Δ.nx ((ε1.set j (.ow (es.eraseIdx k.toNat))).set i (.ow (ds ++ [d])))
    | _, _, _ => False
  | _, _ => False
theorem DVs.erase {H : Hp} : ∀ {vs : List V} {ds : List PyData} (n : Nat), DVs H vs ds → DVs H (vs.eraseIdx n) (ds.eraseIdx n)
  | _, _, _, .nil => .nil
  | _, _, 0, .cons a r => r
  | _, _, n + 1, .cons a r => .cons a (r.erase n)
theorem ss_appPop {i j : Nat} (hij : i ≠ j) (hf : SE w te f) : SS w (tDrop (tBM K "list" rAppend (tVar i) (tCons (tBM K "list" rPopAt (tVar j) (tCons te tNil)) tNil))) (dAppPop i j f) := by
  constructor
  · intro Δ Δ' ε l z
    unfold dAppPop at z ⊢
    split at z
    · refine hf.mono _ _ _ (fun r ε1 z => ?_) z
      split at z
      · obtain ⟨h1, h2, h3, h4, d, h5, h6⟩ := z
        exact ⟨h1, h2, h3, h4, d, h5, l.nx _ h6⟩
      · exact z.elim
    · exact z.elim
  · intro Z O σ ε L H D Δ X E z
    unfold dAppPop at z
    split at z
    · rename_i ds0 es0 h0 h0'
      obtain ⟨o, h1, a, xs, h2, h3, h4, h5, h6, h7⟩ := X.sl i _ h0
      subst h2
      obtain ⟨o', k1, b, zs, k2, k3, k4, k5, k6, k7⟩ := X.sl j _ h0'
      subst k2
      refine ⟨.ref a, h1, .inl ⟨rfl, _, SqL.of h6⟩, .ref b, k1, .inl ⟨rfl, _, SqL.of k6⟩, ?_⟩
      refine hf.run Z O σ ε L H _ X (hf.mono _ _ _ (fun r ε1 z => ?_) z)
      intro v L1 H1 X1 e1 r1
      split at z
      · rename_i k ds es hd hs hs'
        obtain ⟨m1, m2, m3, m4, d, m5, m6⟩ := z
        cases (r1.vl hd).int
        obtain ⟨_, g1, _, ys, g2, g3, g4, g5, g6, g7⟩ := X1.sl i _ hs
        subst g2
        rw [h1] at g1
        cases g1
        obtain ⟨_, f1, _, us, f2, f3, f4, f5, f6, f7⟩ := X1.sl j _ hs'
        subst f2
        rw [k1] at f1
        cases f1
        have ab : a ≠ b := fun q => X1.di i j _ _ a hij hs hs' rfl rfl h1 (by rw [k1, q])
        obtain ⟨u, hu, du⟩ := f7.get m5
        have hl := f7.len
        refine ⟨b, us, k, k.toNat, u, rfl, rfl, f6, by omega, by omega, ?_, hu, ?_⟩
        · refine (ixN_seq (n := us.length) (i := k) (j := k.toNat) ?_).1
          unfold ixN
          rw [if_pos m1, if_pos (by omega)]
        · have X2 := (X1.mut (o := .lst (us.eraseIdx k.toNat)) hs' rfl k1 (z := .ow (es.eraseIdx k.toNat)) ⟨b, _, rfl, f3, f4, f5, upd_same, f7.erase _⟩).1
          have hs2 : (ε1.set j (.ow (es.eraseIdx k.toNat))).s[i]? = some (.ow ds) := by
            show (ε1.s.set j _)[i]? = _
            rw [List.getElem?_set, if_neg (Ne.symm hij)]; exact hs
          refine ⟨a, ys, u, rfl, rfl, by rw [upd_ne ab]; exact g6, by rw [g7.len]; exact m4, ?_⟩
          have X3 := (X2.mut (o := .lst (ys ++ [u])) hs2 rfl h1 (z := .ow (ds ++ [d])) ⟨a, _, rfl, g3, g4, g5, upd_same, g7.app (.one du)⟩).1
          exact E.nx _ _ _ _ _ X3 m6
      · exact z.elim
    · exact z.elim
/-- xs[e] = e' -/
def dSetIx (i : Nat) (f g : DTE)  (Δ : DEnds) (ε : Env) : Prop := f ε fun r ε1 => match r.pub with
  | .sh d => match ε1.s[i]? with
    | some (.ow _) => g ε1 fun k ε2 => match k.dat, ε2.s[i]? with
      | some (.int j), some (.ow ds) => ∃ m, ixN ds.length j = some m ∧ Δ.nx (ε2.set i (.ow (ds.set m d)))
      | _, _ => False
    | _ => False
  | _ => False
theorem ss_setIx {i : Nat} (hf : SE w ta f) (hg : SE w tb g) : SS w (tAsg ta (gSub (tVar i) tb rSetL)) (dSetIx i f g) := by
  constructor
  · intro Δ Δ' ε l z
    refine hf.mono _ _ _ (fun r ε1 z => ?_) z
    split at z
    · split at z
      · refine hg.mono _ _ _ (fun k ε2 z => ?_) z
        split at z
        · obtain ⟨m, h1, h2⟩ := z
          exact ⟨m, h1, l.nx _ h2⟩
        · exact z.elim
      · exact z.elim
    · exact z.elim
  · intro Z O σ ε L H D Δ X E z
    refine hf.run Z O σ ε L H _ X (hf.mono _ _ _ (fun r ε1 z => ?_) z)
    intro v L1 H1 X1 e1 r1
    split at z
    · rename_i d hd
      obtain ⟨L2, X2, e2, r2⟩ := publ X1 e1 r1
      rw [hd] at r2
      split at z
      · rename_i ds0 h0
        obtain ⟨o, h1, a, xs, h2, _⟩ := X2.sl i _ h0
        subst h2
        refine ⟨.ref a, h1, ?_⟩
        refine hg.run Z O σ ε1 L2 H1 _ X2 (hg.mono _ _ _ (fun k ε2 z => ?_) z)
        intro u L3 H3 X3 e3 r3
        split at z
        · rename_i j ds hj hs
          obtain ⟨m, m1, m2⟩ := z
          cases (r3.vl hj).int
          obtain ⟨_, g1, b, ys, g2, g3, g4, g5, g6, g7⟩ := X3.sl i _ hs
          subst g2
          rw [h1] at g1
          cases g1
          refine ⟨a, ys, j, m, rfl, rfl, g6, by rw [g7.len]; exact m1, ?_⟩
          have X4 := (X3.mut (o := .lst (ys.set m v)) hs rfl h1 (z := .ow (ds.set m d)) ⟨a, _, rfl, g3, g4, g5, upd_same, DVs.set (DV.to r2 e3.ll) m g7⟩).1
          exact E.nx _ _ _ _ _ X4 m2
        · exact z.elim
      · exact z.elim
    · exact z.elim
/-- xs += e, xs an own list -/
def dExt (i : Nat) (f : DTE)  (Δ : DEnds) (ε : Env) : Prop := match ε.s[i]? with
  | some (.ow _) => f ε fun r ε1 => match r.dat, ε1.s[i]? with
    | some (.list es), some (.ow ds) => ds.length + es.length ≤ sizeLine ∧ Δ.nx (ε1.set i (.ow (ds ++ es)))
    | _, _ => False
  | _ => False
theorem ss_ext {i : Nat} (hf : SE w te f) : SS w (tAug i te rExt2) (dExt i f) := by
  constructor
  · intro Δ Δ' ε l z
    unfold dExt at z ⊢
    split at z
    · refine hf.mono _ _ _ (fun r ε1 z => ?_) z
      split at z
      · exact ⟨z.1, l.nx _ z.2⟩
      · exact z.elim
    · exact z.elim
  · intro Z O σ ε L H D Δ X E z
    unfold dExt at z
    split at z
    · rename_i ds0 h0
      obtain ⟨o, h1, a, xs, h2, h3, h4, h5, h6, h7⟩ := X.sl i _ h0
      subst h2
      refine ⟨.ref a, h1, ?_⟩
      refine hf.run Z O σ ε L H _ X (hf.mono _ _ _ (fun r ε1 z => ?_) z)
      intro v L1 H1 X1 e1 r1
      split at z
      · rename_i es ds hd hs
        obtain ⟨b, zs, rfl, m1, m2⟩ := (r1.vl hd).lst X1.lh
        obtain ⟨_, g1, _, ys, g2, g3, g4, g5, g6, g7⟩ := X1.sl i _ hs
        subst g2
        rw [h1] at g1
        cases g1
        refine ⟨a, b, ys, zs, rfl, rfl, g6, m1, by rw [g7.len, m2.len]; exact z.1, ?_⟩
        have X3 := (X1.mut (o := .lst (ys ++ zs)) hs rfl h1 (z := .ow (ds ++ es)) ⟨a, _, rfl, g3, g4, g5, upd_same, g7.app m2⟩).1
        have e3 : σ.set i (some (.ref a)) = σ := List.ext_getElem? fun j => by
          rw [List.getElem?_set]
          split
          · rename_i e
            subst e
            split
            · exact h1.symm
            · rename_i hl
              rw [List.getElem?_eq_none_iff.mpr (by omega)]
          · rfl
        show D.nx (List.set σ i (some (.ref a))) _
        rw [e3]
        exact E.nx _ _ _ _ _ X3 z.2
      · exact z.elim
    · exact z.elim
/-- x op= e -/
def dAug (φ : PyData → PyData → (R → Prop) → Prop) (i : Nat) (f : DTE)  (Δ : DEnds) (ε : Env) : Prop := match ε.s[i]? with
  | some (.sh a) => f ε fun r ε1 => match r.dat with
    | some b => φ a b fun q => match val false q with
      | some y => Δ.nx (ε1.set i y)
      | none => False
    | none => False
  | _ => False
theorem ss_aug {i : Nat} {r : R2} {φ : PyData → PyData → (R → Prop) → Prop} (k : R2K r φ) (hf : SE w te f) : SS w (tAug i te r) (dAug φ i f) := by
  constructor
  · intro Δ Δ' ε l z
    unfold dAug at z ⊢
    split at z
    · refine hf.mono _ _ _ (fun r ε1 z => ?_) z
      split at z
      · refine k.mono _ _ _ _ (fun q z => ?_) z
        split at z
        · exact l.nx _ z
        · exact z.elim
      · exact z.elim
    · exact z.elim
  · intro Z O σ ε L H D Δ X E z
    unfold dAug at z
    split at z
    · rename_i a h0
      obtain ⟨o, h1, x, h2, h3⟩ := X.sl i _ h0
      subst h2
      refine ⟨x, h1, ?_⟩
      refine hf.run Z O σ ε L H _ X (hf.mono _ _ _ (fun r ε1 z => ?_) z)
      intro v L1 H1 X1 e1 r1
      split at z
      · rename_i b hb
        refine k.run L1 H1 x v a b _ X1.lh (.inl (h3.to e1.ll)) (r1.vl hb) (k.mono _ _ _ _ (fun q z => ?_) z)
        intro y L2 H2 e2 s2 r2
        split at z
        · rename_i s hs
          obtain ⟨O', L', X', _⟩ := (X1.step e2 s2).put (i := i) (r2.vr X1) hs
          exact E.nx _ _ _ _ _ X' z
        · exact z.elim
      · exact z.elim
    · exact z.elim
/-! ### sets of ints -/
def dSet0 (i : Nat)  (Δ : DEnds) (ε : Env) : Prop := Δ.nx (ε.set i (.st (fun _ => false) 0))
theorem ss_set0 {i : Nat} : SS w (tAsg (tCB (rSet0 w) tNil) (gName i)) (dSet0 i) := by
  constructor
  · intro Δ Δ' ε l z
    exact l.nx _ z
  · intro Z O σ ε L H D Δ X E z
    refine ⟨rfl, fun a na => ?_⟩
    have e1 : Ext none L H L (upd H a (SetO w a (fun _ => false) 0)) := Ext.own na
    have X1 := X.step e1 (same_own X.lh (X.lh.free na))
    have n0 : Z.H0 a = none := X.ex.free na
    have nO : ¬ O a := fun o => (X.oh a o).1 na
    refine E.nx (fun b => O b ∨ b = a) _ _ _ _ (X1.put0 (i := i) (v := .ref a) (fun b => O b ∨ b = a) (fun b h => .inl h) (fun b hb => ?_) (y := .st (fun _ => false) 0) ⟨a, rfl, .inr rfl, X.lh.free na, n0, upd_same⟩ (fun _ b e => by cases e; exact nO)) z
    rcases hb with hb | rfl
    · exact X1.oh b hb
    · exact ⟨by rw [upd_same]; exact (fun z => nomatch z), n0⟩
def dSAdd (i : Nat) (f : DTE)  (Δ : DEnds) (ε : Env) : Prop := match ε.s[i]? with
  | some (.st _ _) => f ε fun r ε1 => match r.dat, ε1.s[i]? with
    | some (.int k), some (.st S n) => n + 1 < scanBound ∧ Δ.nx (ε1.set i (.st (fun j => S j || decide (j = k)) (if S k = true then n else n + 1)))
    | _, _ => False
  | _ => False
theorem ss_sadd {i : Nat} (hf : SE w te f) : SS w (tDrop (tSAdd w (tVar i) (tCons te tNil))) (dSAdd i f) := by
  constructor
  · intro Δ Δ' ε l z
    unfold dSAdd at z ⊢
    split at z
    · refine hf.mono _ _ _ (fun r ε1 z => ?_) z
      split at z
      · exact ⟨z.1, l.nx _ z.2⟩
      · exact z.elim
    · exact z.elim
  · intro Z O σ ε L H D Δ X E z
    unfold dSAdd at z
    split at z
    · rename_i S0 n0 h0
      obtain ⟨o, h1, a, h2, h3, h4, h5, h6⟩ := X.sl i _ h0
      subst h2
      refine ⟨.ref a, h1, ⟨a, S0, n0, rfl, h6⟩, ?_⟩
      refine hf.run Z O σ ε L H _ X (hf.mono _ _ _ (fun r ε1 z => ?_) z)
      intro v L1 H1 X1 e1 r1
      split at z
      · rename_i k S n hd hs
        cases (r1.vl hd).int
        obtain ⟨_, g1, _, g2, g3, g4, g5, g6⟩ := X1.sl i _ hs
        subst g2
        rw [h1] at g1
        cases g1
        refine ⟨a, k, S, n, rfl, rfl, g6, z.1, ?_⟩
        have X3 := (X1.mut (o := SetO w a (fun j => S j || decide (j = k)) (if S k = true then n else n + 1)) hs rfl h1 (z := .st (fun j => S j || decide (j = k)) (if S k = true then n else n + 1)) ⟨a, rfl, g3, g4, g5, upd_same⟩).1
        exact E.nx _ _ _ _ _ X3 z.2
      · exact z.elim
    · exact z.elim
def dSNotIn (f g : DTE)  (ε : Env) (Q : R → Env → Prop) : Prop := f ε fun x ε1 => g ε1 fun y ε2 => match x.dat, y with
  | some (.int k), .sr _ S _ => Q (.sh (.bool (!S k))) ε2
  | _, _ => False
theorem se_snotin (hf : SE w ta f) (hg : SE w tb g) : SE w (tOp (rSNotIn w) ta tb) (dSNotIn f g) := by
  constructor
  · intro ε A B h q
    refine hf.mono _ _ _ (fun x ε1 q => hg.mono _ _ _ (fun y ε2 q => ?_) q) q
    split at q
    · exact h _ _ q
    · exact q.elim
  · intro Z O σ ε L H Q X q
    refine hf.run Z O σ ε L H _ X (hf.mono _ _ _ (fun x ε1 q => ?_) q)
    intro v L1 H1 X1 e1 r1
    refine hg.run Z O σ ε1 L1 H1 _ X1 (hg.mono _ _ _ (fun y ε2 q => ?_) q)
    intro u L2 H2 X2 e2 r2
    split at q
    · rename_i k i S n ex
      obtain ⟨a, rfl, h1, h2, h3, h4, h5⟩ := r2
      cases ((r1.mono X1 e2).vl ex).int
      exact ⟨k, a, S, n, rfl, rfl, h5, q _ L2 H2 X2 (e1.trans e2) (.bl _)⟩
    · exact q.elim
end
end Lp

namespace Lp
open PySem PySem.Spec PyProof.Rows L2
/-! ### what is walked -/
/-- a list or a tuple -/
def iSeq (K : PySem.W.Frag) (tl : TE) : TI := fun σ H R => tl σ H fun x H1 => ∃ a, x = .ref a ∧ (((∃ xs, SqL K H1 a xs) ∧ R (Itl K a) H1) ∨ ((∃ xs, SqT K H1 a xs) ∧ R (Itt K a) H1))
theorem pi_seq {X : Cx} {tg o : Expr} {to : TE} (ho : PE X o to) : PI X tg o (iSeq X.K to) := by
  constructor
  intro pins s σ H R I want
  refine thn (ho.run pins s σ H _ I want) ?_
  rintro u s' ⟨_, H', J, rel, a, rfl, ways⟩
  cases rel
  have fp : ∀ b ∈ [s'.heap.objs.size], FpOk X pins H' b := fun b hb => by
    cases List.mem_singleton.mp hb
    exact J.fpOk (Nat.le_refl _) (J.hok.fresh (Nat.le_refl _))
  rcases ways with ⟨⟨xs, at_a⟩, go⟩ | ⟨⟨xs, at_a⟩, go⟩
  · obtain ⟨vals, _, lst, _⟩ := J.list at_a
    refine wpAny_pyIter_list lst.isList ⟨s'.heap.objs.size, [s'.heap.objs.size], _, _, H', rfl, ?_, turn_list a _, ⟨_, Heap.get?_push_size _ rfl, rfl, rfl⟩, fp, go⟩
    exact J.kept (t' := s'.toks) fun _ _ q => Heap.get?_push_of_some _ q
  · obtain ⟨vals, _, tup, _⟩ := J.tuple at_a
    have tup' : s'.heap.IsTuple a vals.toArray := tup
    refine wpAny_pyIter_tuple tup' ⟨s'.heap.objs.size, [s'.heap.objs.size], _, _, H', rfl, ?_, turn_tuple a _, ⟨_, Heap.get?_push_size _ rfl, rfl, rfl⟩, fp, go⟩
    exact J.kept (t' := s'.toks) fun _ _ q => Heap.get?_push_of_some _ q
/-- the items, while what is walked stands still -/
structure WalkS (pk : Bool) (L : Hp) (J : It) (ds : List PyData) : Prop where
  go : ∀ i L' H', Same L L' → Same L' H' → i < ds.length → J.go i H'
  stop : ∀ L' H', Same L L' → Same L' H' → J.stop ds.length H'
  yld : ∀ (i : Nat) d L' H' x H2, Same L L' → Same L' H' → ds[i]? = some d → J.yld i H' x H2 → ∃ L2, Ext none L' H' L2 H2 ∧ Same L2 H2 ∧ VI pk L2 H2 x d
structure WalkE (pk : Bool) (b : Option Addr) (L H : Hp) (J : It) (ds : List PyData) : Prop where
  go : ∀ i L' H', Ext b L H L' H' → Same L' H' → i < ds.length → J.go i H'
  stop : ∀ L' H', Ext b L H L' H' → Same L' H' → J.stop ds.length H'
  yld : ∀ (i : Nat) d L' H' x H2, Ext b L H L' H' → Same L' H' → ds[i]? = some d → J.yld i H' x H2 → ∃ L2, Ext none L' H' L2 H2 ∧ Same L2 H2 ∧ VI pk L2 H2 x d
theorem WalkS.e {pk : Bool} {b : Option Addr} {L H : Hp} {J : It} {ds : List PyData} (x : WalkS pk L J ds) : WalkE pk b L H J ds :=
  ⟨fun i L' H' e s h => x.go i L' H' e.ll s h, fun L' H' e s => x.stop L' H' e.ll s, fun i d L' H' y H2 e s h => x.yld i d L' H' y H2 e.ll s h⟩
abbrev DTI := Env → (List PyData → Bool → Env → Prop) → Prop
structure SI (w : World) (pk : Bool) (t : TI) (f : DTI) : Prop where
  mono : ∀ ε (A B : List PyData → Bool → Env → Prop), (∀ r b ε', A r b ε' → B r b ε') → f ε A → f ε B
  run : ∀ (Z : Zx) (O : Addr → Prop) (σ : L2.St) (ε : Env) (L H : Hp) (R : It → Hp → Prop), Rep w Z O L H σ ε → f ε (fun ds fl ε' => ∀ J L' H', Rep w Z O L' H' σ ε' → Ext Z.b L H L' H' → WalkE pk Z.b L' H' J ds → (fl = true → WalkS pk L' J ds) → R J H') → t σ H R
section
variable {w : World} {K : PySem.W.Frag} {ta tb te : TE} {f g : DTE}
theorem walkS_list {L : Hp} {a : Addr} {xs : List V} {ds : List PyData} (h : L a = some (.lst xs)) (r : DVs L xs ds) : WalkS false L (Itl K a) ds := by
  have hl := r.len
  refine ⟨fun i L' H' s1 s2 hi => ?_, fun L' H' s1 s2 => ?_, fun i d L' H' x H2 s1 s2 hd y => ?_⟩
  · exact ⟨xs, xs[i]'(by omega), SqL.of (s2 _ _ (s1 _ _ h)), List.getElem?_eq_getElem (by omega)⟩
  · exact ⟨xs, SqL.of (s2 _ _ (s1 _ _ h)), by omega⟩
  · obtain ⟨rfl, y2⟩ := y
    have hx := y2 xs (SqL.of (s2 _ _ (s1 _ _ h)))
    obtain ⟨v, h1, h2⟩ := r.get hd
    rw [hx] at h1
    cases h1
    exact ⟨L', Ext.refl _ _ _, s2, h2.to s1⟩
theorem walkS_tup {L : Hp} {a : Addr} {xs : List V} {ds : List PyData} (h : Sol L a xs) (r : DVs L xs ds) : WalkS false L (Itt K a) ds := by
  have hl := r.len
  refine ⟨fun i L' H' s1 s2 hi => ?_, fun L' H' s1 s2 => ?_, fun i d L' H' x H2 s1 s2 hd y => ?_⟩
  · exact ⟨xs, xs[i]'(by omega), ((h.to s1).to s2).seq, List.getElem?_eq_getElem (by omega)⟩
  · exact ⟨xs, ((h.to s1).to s2).seq, by omega⟩
  · obtain ⟨rfl, y2⟩ := y
    have hx := y2 xs (((h.to s1).to s2).seq)
    obtain ⟨v, h1, h2⟩ := r.get hd
    rw [hx] at h1
    cases h1
    exact ⟨L', Ext.refl _ _ _, s2, h2.to s1⟩
theorem walkE_list {b : Option Addr} {L H : Hp} {a : Addr} {xs : List V} {ds : List PyData} (hb : b ≠ some a) (h : H a = some (.lst xs)) (r : DVs L xs ds) : WalkE false b L H (Itl K a) ds := by
  have hl := r.len
  refine ⟨fun i L' H' e s2 hi => ?_, fun L' H' e s2 => ?_, fun i d L' H' x H2 e s2 hd y => ?_⟩
  · exact ⟨xs, xs[i]'(by omega), SqL.of (e.hh _ _ h hb), List.getElem?_eq_getElem (by omega)⟩
  · exact ⟨xs, SqL.of (e.hh _ _ h hb), by omega⟩
  · obtain ⟨rfl, y2⟩ := y
    have hx := y2 xs (SqL.of (e.hh _ _ h hb))
    obtain ⟨v, h1, h2⟩ := r.get hd
    rw [hx] at h1
    cases h1
    exact ⟨L', Ext.refl _ _ _, s2, h2.to e.ll⟩
def dIter (f : DTE)  (ε : Env) (Q : List PyData → Bool → Env → Prop) : Prop := f ε fun r ε1 => match r.pub with
  | .sh (.list ds) => Q ds true ε1
  | .sh (.tuple ds) => Q ds true ε1
  | .br _ ds => Q ds false ε1
  | _ => False
theorem si_seq (hf : SE w ta f) : SI w false (iSeq K ta) (dIter f) := by
  constructor
  · intro ε A B h q
    refine hf.mono _ _ _ (fun r ε1 q => ?_) q
    split at q
    · exact h _ _ _ q
    · exact h _ _ _ q
    · exact h _ _ _ q
    · exact q.elim
  · intro Z O σ ε L H R X q
    refine hf.run Z O σ ε L H _ X (hf.mono _ _ _ (fun r ε1 q => ?_) q)
    intro v L1 H1 X1 e1 r1
    obtain ⟨L2, X2, e2, r2⟩ := publ X1 e1 r1
    split at q
    · rename_i ds hd
      rw [hd] at r2
      cases (show DV L2 v (.list ds) from r2) with
      | lst h1 h2 =>
        have W := walkS_list (K := K) h1 h2
        exact ⟨_, rfl, .inl ⟨⟨_, SqL.of (X2.lh _ _ h1)⟩, q _ L2 H1 X2 e2 W.e fun _ => W⟩⟩
    · rename_i ds hd
      rw [hd] at r2
      cases (show DV L2 v (.tuple ds) from r2) with
      | tup h1 h2 =>
        have W := walkS_tup (K := K) h1 h2
        exact ⟨_, rfl, .inr ⟨⟨_, (h1.to X2.lh).seq⟩, q _ L2 H1 X2 e2 W.e fun _ => W⟩⟩
    · rename_i i ds hd
      rw [hd] at r2
      obtain ⟨a, xs, rfl, h1, h2, h3, h4, h5, h6⟩ := r2
      exact ⟨a, rfl, .inl ⟨⟨_, SqL.of h5⟩, q _ L2 H1 X2 e2 (walkE_list (X2.nob h3) h5 h6) (fun z => nomatch z)⟩⟩
    · exact q.elim
/-- the ints from lo on, n of them -/
def rgD (lo : Int) (n : Nat) : List PyData := (List.range n).map fun i => .int (lo + (i : Nat))
theorem rgD_len (lo : Int) (n : Nat) : (rgD lo n).length = n := by unfold rgD; rw [List.length_map, List.length_range]
theorem rgD_get {lo : Int} {n i : Nat} {d : PyData} (h : (rgD lo n)[i]? = some d) : i < n ∧ d = .int (lo + (i : Nat)) := by
  have hi : i < n := by
    have := (List.getElem?_eq_some_iff.mp h).1
    rwa [rgD_len] at this
  unfold rgD at h
  rw [List.getElem?_map, List.getElem?_range hi] at h
  cases h
  exact ⟨hi, rfl⟩
theorem walkS_rg {L : Hp} {lo : Int} {n : Nat} : WalkS false L (Itr lo n) (rgD lo n) := by
  refine ⟨fun i L' H' s1 s2 hi => ?_, fun L' H' s1 s2 => ?_, fun i d L' H' x H2 s1 s2 hd y => ?_⟩
  · rw [rgD_len] at hi; exact hi
  · rw [rgD_len]; exact Nat.le_refl n
  · obtain ⟨rfl, rfl⟩ := y
    obtain ⟨_, rfl⟩ := rgD_get hd
    exact ⟨L', Ext.refl _ _ _, s2, .int _⟩
def dRng1 (f : DTA)  (ε : Env) (Q : List PyData → Bool → Env → Prop) : Prop := f ε fun rs ε1 => match rs with
  | [.sh (.int j)] => (-(2 ^ 62) ≤ j ∧ j < 2 ^ 62) ∧ Q (rgD 0 j.toNat) true ε1
  | _ => False
theorem si_rng1 {n : Nat} {t : TA} {f : DTA} (hf : SA w n t f) : SI w false (iRng1 t) (dRng1 f) := by
  constructor
  · intro ε A B h q
    refine hf.mono _ _ _ (fun r ε1 q => ?_) q
    split at q
    · exact ⟨q.1, h _ _ _ q.2⟩
    · exact q.elim
  · intro Z O σ ε L H R X q
    refine hf.run Z O σ ε L H _ X (hf.mono _ _ _ (fun r ε1 q => ?_) q)
    intro vs L1 H1 X1 e1 r1 hl np
    split at q
    · rename_i j
      cases r1 with
      | cons r1 r2 =>
        cases r2
        cases (show DV L1 _ (.int j) from r1)
        exact ⟨j, rfl, q.1.1, q.1.2, q.2 _ L1 H1 X1 e1 walkS_rg.e fun _ => walkS_rg⟩
    · exact q.elim
def dRng2 (f : DTA)  (ε : Env) (Q : List PyData → Bool → Env → Prop) : Prop := f ε fun rs ε1 => match rs with
  | [.sh (.int i), .sh (.int j)] => (-(2 ^ 62) ≤ i ∧ i < 2 ^ 62 ∧ -(2 ^ 62) ≤ j ∧ j < 2 ^ 62) ∧ Q (rgD i (j - i).toNat) true ε1
  | _ => False
theorem si_rng2 {n : Nat} {t : TA} {f : DTA} (hf : SA w n t f) : SI w false (iRng2 t) (dRng2 f) := by
  constructor
  · intro ε A B h q
    refine hf.mono _ _ _ (fun r ε1 q => ?_) q
    split at q
    · exact ⟨q.1, h _ _ _ q.2⟩
    · exact q.elim
  · intro Z O σ ε L H R X q
    refine hf.run Z O σ ε L H _ X (hf.mono _ _ _ (fun r ε1 q => ?_) q)
    intro vs L1 H1 X1 e1 r1 hl np
    split at q
    · rename_i i j
      cases r1 with
      | cons r1 r2 =>
        cases r2 with
        | cons r2 r3 =>
          cases r3
          cases (show DV L1 _ (.int i) from r1)
          cases (show DV L1 _ (.int j) from r2)
          exact ⟨i, j, rfl, q.1, q.2 _ L1 H1 X1 e1 walkS_rg.e fun _ => walkS_rg⟩
    · exact q.elim
end
/-! ### targets -/
abbrev DTG := PyData → Env → (Env → Prop) → Prop
/-- but for the slots js all is as it was -/
def But (js : List Nat) (σ σ' : L2.St) : Prop := σ'.length = σ.length ∧ ∀ i : Nat, i ∉ js → σ'[i]? = σ[i]?
structure SG (w : World) (pk : Bool) (js : List Nat) (g : TG) (γ : DTG) : Prop where
  mono : ∀ d ε (A B : Env → Prop), (∀ ε', A ε' → B ε') → γ d ε A → γ d ε B
  run : ∀ (Z : Zx) (O : Addr → Prop) (σ : L2.St) (ε : Env) (L H : Hp) (v : V) (d : PyData) (Q : L2.St → Hp → Prop), Rep w Z O L H σ ε → VI pk L H v d → γ d ε (fun ε' => ∀ σ', Rep w Z O L H σ' ε' → But js σ σ' → Q σ' H) → g v σ H Q
abbrev DTGs := List PyData → Env → (Env → Prop) → Prop
structure SGs (w : World) (js : List Nat) (g : TGs) (γ : DTGs) : Prop where
  mono : ∀ d ε (A B : Env → Prop), (∀ ε', A ε' → B ε') → γ d ε A → γ d ε B
  run : ∀ (Z : Zx) (O : Addr → Prop) (σ : L2.St) (ε : Env) (L H : Hp) (v : List V) (d : List PyData) (Q : L2.St → Hp → Prop), Rep w Z O L H σ ε → DVs L v d → γ d ε (fun ε' => ∀ σ', Rep w Z O L H σ' ε' → But js σ σ' → Q σ' H) → g v σ H Q
section
variable {w : World} {K : PySem.W.Frag}
def dName (i : Nat)  (d : PyData) (ε : Env) (Q : Env → Prop) : Prop := Q (ε.set i (.sh d))
theorem sg_name {i : Nat} : SG w false [i] (gName i) (dName i) := ⟨fun _ _ _ _ h q => h _ q, fun Z O σ ε L H v d Q X r q => q _ (X.sh r) ⟨List.length_set, fun j hj => by
  rw [List.getElem?_set, if_neg (fun e => hj (by rw [e]; exact List.mem_singleton.mpr rfl))]⟩⟩
def dGNil  (ds : List PyData) (ε : Env) (Q : Env → Prop) : Prop := match ds with
  | [] => Q ε
  | _ => False
def dGCons (γ : DTG) (γs : DTGs)  (ds : List PyData) (ε : Env) (Q : Env → Prop) : Prop := match ds with
  | d :: ds => γ d ε fun ε1 => γs ds ε1 Q
  | _ => False
theorem sgs_nil : SGs w [] gNil dGNil := by
  constructor
  · intro ds ε A B h q
    cases ds with
    | nil => exact h _ q
    | cons _ _ => exact q.elim
  · intro Z O σ ε L H v d Q X r q
    cases r with
    | nil => exact ⟨rfl, q _ X ⟨rfl, fun _ _ => rfl⟩⟩
    | cons _ _ => exact q.elim
theorem sgs_cons {g : TG} {gs : TGs} {γ : DTG} {γs : DTGs} {js ks : List Nat} (hg : SG w false js g γ) (hs : SGs w ks gs γs) : SGs w (js ++ ks) (gCons g gs) (dGCons γ γs) := by
  constructor
  · intro ds ε A B h q
    cases ds with
    | nil => exact q.elim
    | cons d ds => exact hg.mono _ _ _ _ (fun ε1 q => hs.mono _ _ _ _ h q) q
  · intro Z O σ ε L H v d Q X r q
    cases r with
    | nil => exact q.elim
    | cons r rr =>
      refine ⟨_, _, rfl, hg.run Z O σ ε L H _ _ _ X r (hg.mono _ _ _ _ (fun ε1 q σ1 X1 b1 => ?_) q)⟩
      refine hs.run Z O σ1 ε1 L H _ _ _ X1 rr (hs.mono _ _ _ _ (fun ε2 q σ2 X2 b2 => ?_) q)
      exact q σ2 X2 ⟨b2.1.trans b1.1, fun i hi => (b2.2 i fun h => hi (List.mem_append_right _ h)).trans (b1.2 i fun h => hi (List.mem_append_left _ h))⟩
def dGTup (n : Nat) (γs : DTGs)  (d : PyData) (ε : Env) (Q : Env → Prop) : Prop := match d with
  | .tuple ds => ds.length = n ∧ γs ds ε Q
  | _ => False
theorem sg_tup {pk : Bool} {n : Nat} {gs : TGs} {γs : DTGs} {js : List Nat} (hs : SGs w js gs γs) : SG w pk js (gTup K n gs) (dGTup n γs) := by
  constructor
  · intro d ε A B h q
    cases d with
    | tuple ds => exact ⟨q.1, hs.mono _ _ _ _ h q.2⟩
    | _ => exact q.elim
  · intro Z O σ ε L H v d Q X r q
    have solid : DV L v d → gTup K n gs v σ H Q := fun r => by
      cases r with
      | tup h1 h2 => exact ⟨_, _, rfl, (h1.to X.lh).seq, by rw [h2.len]; exact q.1, hs.run Z O σ ε L H _ _ _ X h2 q.2⟩
      | _ => exact q.elim
    cases pk with
    | false => exact solid r
    | true =>
      rcases r with r | ⟨a, xs, ds, rfl, rfl, h1, h2⟩
      · exact solid r
      · exact ⟨_, _, rfl, SqT.of h1, by rw [h2.len]; exact q.1, hs.run Z O σ ε L H _ _ _ X h2 q.2⟩
variable {ta : TE} {f : DTE}
def dAsg (f : DTE) (γ : DTG)  (Δ : DEnds) (ε : Env) : Prop := f ε fun r ε1 => match r.pub with
  | .sh d => γ d ε1 Δ.nx
  | _ => False
theorem ss_asg {g : TG} {γ : DTG} {js : List Nat} (hf : SE w ta f) (hg : SG w false js g γ) : SS w (tAsg ta g) (dAsg f γ) := by
  constructor
  · intro Δ Δ' ε l z
    refine hf.mono _ _ _ (fun r ε1 z => ?_) z
    split at z
    · exact hg.mono _ _ _ _ (fun ε z => l.nx ε z) z
    · exact z.elim
  · intro Z O σ ε L H D Δ X E z
    refine hf.run Z O σ ε L H _ X (hf.mono _ _ _ (fun r ε1 z => ?_) z)
    intro v L1 H1 X1 e1 r1
    obtain ⟨L2, X2, e2, r2⟩ := publ X1 e1 r1
    split at z
    · rename_i d hd
      rw [hd] at r2
      exact hg.run Z O σ ε1 L2 H1 v d _ X2 r2 (hg.mono _ _ _ _ (fun ε z σ' X' _ => E.nx _ _ _ _ _ X' z) z)
    · exact z.elim
/-! ### loops -/
def forD (γ : DTG) (p : DTS) (Δ : DEnds) : List PyData → Env → Prop
  | [], ε => Δ.nx ε
  | d :: ds, ε => γ d ε fun ε1 => p { nx := forD γ p Δ ds, rt := Δ.rt, bk := Δ.nx, ct := forD γ p Δ ds } ε1
def dFor (i : DTI) (γ : DTG) (p : DTS)  (Δ : DEnds) (ε : Env) : Prop := i ε fun ds fl ε1 => fl = true ∧ forD γ p Δ ds ε1
/-- what is known of the pinned view may be forgotten -/
theorem Rep.unpin {Z : Zx} {O : Addr → Prop} {σ : L2.St} {ε : Env} {L H P : Hp} (h : Same Z.P P) (x : Rep w { Z with P := P } O L H σ ε) : Rep w Z O L H σ ε :=
  ⟨x.lh, h.trans x.pn, x.ex, x.bo, x.oh, x.len, x.sl, x.di⟩
theorem Rep.pin {Z : Zx} {O : Addr → Prop} {σ : L2.St} {ε : Env} {L H P : Hp} (h : Same P L) (x : Rep w Z O L H σ ε) : Rep w { Z with P := P } O L H σ ε :=
  ⟨x.lh, h, x.ex, x.bo, x.oh, x.len, x.sl, x.di⟩
theorem forD_mono {pk : Bool} {γ : DTG} {p : DTS} {t : TS} {g : TG} {js : List Nat} (hg : SG w pk js g γ) (hp : SS w t p) {Δ Δ' : DEnds} (l : DEnds.le Δ Δ') : ∀ (ds : List PyData) (ε : Env), forD γ p Δ ds ε → forD γ p Δ' ds ε
  | [], ε, z => l.nx ε z
  | d :: ds, ε, z => hg.mono _ _ _ _ (fun ε1 z => hp.mono { nx := forD γ p Δ ds, rt := Δ.rt, bk := Δ.nx, ct := forD γ p Δ ds } _ ε1 ⟨forD_mono hg hp l ds, l.rt, l.nx, forD_mono hg hp l ds⟩ z) z
theorem ss_for {pk : Bool} {wi : TI} {i : DTI} {g : TG} {γ : DTG} {t : TS} {p : DTS} {js : List Nat} (hi : SI w pk wi i) (hg : SG w pk js g γ) (hp : SS w t p) : SS w (tFor wi g t) (dFor i γ p) := by
  constructor
  · intro Δ Δ' ε l z
    exact hi.mono _ _ _ (fun ds b ε1 z => ⟨z.1, forD_mono hg hp l ds ε1 z.2⟩) z
  · intro Z O σ ε L H D Δ X E z
    refine hi.run Z O σ ε L H _ X (hi.mono _ _ _ (fun ds b ε1 z => ?_) z)
    intro J L1 H1 X1 e1 _ W
    obtain ⟨hb, z⟩ := z
    have W := W hb
    have sP := X1.pn
    refine ⟨fun i m σ H => i + m = ds.length ∧ ∃ O L ε, Rep w { Z with P := L1 } O L H σ ε ∧ forD γ p Δ (ds.drop i) ε, ⟨ds.length, by omega, O, L1, ε1, X1.pin (Same.refl _), by rw [List.drop_zero]; exact z⟩, ?_⟩
    rintro i m σ2 H2 ⟨him, O2, L2, ε2, X2, z2⟩
    by_cases hlt : i < ds.length
    · refine .inr ⟨W.go i L2 H2 X2.pn X2.lh hlt, fun σ' H' => ∃ O L ε, Rep w { Z with P := L1 } O L H' σ' ε ∧ forD γ p Δ (ds.drop (i + 1)) ε, fun σ' H' q => ⟨m - 1, by omega, by omega, q⟩, fun x H' y => ?_⟩
      have hd : ds[i]? = some ds[i] := List.getElem?_eq_getElem hlt
      rw [List.drop_eq_getElem_cons hlt] at z2
      obtain ⟨L3, e3, s3, r3⟩ := W.yld i ds[i] L2 H2 x H' X2.pn X2.lh hd y
      have X3 := X2.step e3 s3
      refine hg.run _ O2 σ2 ε2 L3 H' x ds[i] _ X3 r3 (hg.mono _ _ _ _ (fun ε3 z3 σ3 X4 _ => ?_) z2)
      refine hp.run _ O2 σ3 ε3 L3 H' _ { nx := forD γ p Δ (ds.drop (i + 1)), rt := Δ.rt, bk := Δ.nx, ct := forD γ p Δ (ds.drop (i + 1)) } X4 ⟨fun O σ ε L H X z => ⟨O, L, ε, X, z⟩, fun O σ ε L H v r X q z => E.rt O σ ε L H v r (X.unpin sP) q z, fun O σ ε L H X z => E.nx O σ ε L H (X.unpin sP) z, fun O σ ε L H X z => ⟨O, L, ε, X, z⟩⟩ z3
    · have e : i = ds.length := by omega
      subst e
      rw [List.drop_length] at z2
      exact .inl ⟨W.stop L2 H2 X2.pn X2.lh, E.nx O2 σ2 ε2 L2 H2 (X2.unpin sP) z2⟩
def whileN (c : DTT) (p : DTS) (Δ : DEnds) : Nat → Env → Prop
  | 0, _ => False
  | n + 1, ε => c ε fun b ε1 => if b = true then p { nx := whileN c p Δ n, rt := Δ.rt, bk := Δ.nx, ct := whileN c p Δ n } ε1 else Δ.nx ε1
def dWhile (c : DTT) (p : DTS)  (Δ : DEnds) (ε : Env) : Prop := ∃ n, whileN c p Δ n ε
theorem whileN_mono {c : DTT} {p : DTS} {tc : TT} {t : TS} (hc : ST w tc c) (hp : SS w t p) {Δ Δ' : DEnds} (l : DEnds.le Δ Δ') : ∀ (n : Nat) (ε : Env), whileN c p Δ n ε → whileN c p Δ' n ε
  | 0, ε, z => z
  | n + 1, ε, z => by
    refine hc.mono _ _ _ (fun b ε1 z => ?_) z
    cases b with
    | true => exact iteT (hp.mono { nx := whileN c p Δ n, rt := Δ.rt, bk := Δ.nx, ct := whileN c p Δ n } _ ε1 ⟨whileN_mono hc hp l n, l.rt, l.nx, whileN_mono hc hp l n⟩ (by rw [if_pos rfl] at z; exact z))
    | false => exact iteF (l.nx _ (by rw [if_neg Bool.false_ne_true] at z; exact z))
theorem ss_while {c : DTT} {p : DTS} {tc : TT} {t : TS} (hc : ST w tc c) (hp : SS w t p) : SS w (tWhile tc t) (dWhile c p) := by
  constructor
  · rintro Δ Δ' ε l ⟨n, z⟩
    exact ⟨n, whileN_mono hc hp l n ε z⟩
  · rintro Z O σ ε L H D Δ X E ⟨n, z⟩
    refine ⟨fun m σ H => ∃ O L ε, Rep w Z O L H σ ε ∧ whileN c p Δ m ε, ⟨n, O, L, ε, X, z⟩, ?_⟩
    rintro m σ1 H1 ⟨O1, L1, ε1, X1, z1⟩
    cases m with
    | zero => exact z1.elim
    | succ m =>
      refine hc.run Z O1 σ1 ε1 L1 H1 _ X1 (hc.mono _ _ _ (fun b ε2 z2 => ?_) z1)
      intro L2 H2 X2 e2
      cases b with
      | true =>
        rw [if_pos rfl] at z2
        refine iteT ⟨fun σ' H' => ∃ O L ε, Rep w Z O L H' σ' ε ∧ whileN c p Δ m ε, fun σ' H' q => ⟨m, Nat.lt_succ_self m, q⟩, ?_⟩
        exact hp.run Z O1 σ1 ε2 L2 H2 _ { nx := whileN c p Δ m, rt := Δ.rt, bk := Δ.nx, ct := whileN c p Δ m } X2 ⟨fun O σ ε L H X z => ⟨O, L, ε, X, z⟩, E.rt, E.nx, fun O σ ε L H X z => ⟨O, L, ε, X, z⟩⟩ z2
      | false =>
        rw [if_neg Bool.false_ne_true] at z2
        exact iteF (E.nx O1 σ1 ε2 L2 H2 X2 z2)
end
end Lp

namespace Lp
open PySem PySem.Spec PyProof.Rows L2
/-! ### behind a call -/
theorem Rep.exts {w : World} {Z : Zx} {O : Addr → Prop} {σ : L2.St} {ε : Env} {L H L' H' : Hp} {c : Nat} (x : Rep w Z O L H σ ε) (e : Ext Z.b L H L' H') (s : Same L' H') (hc : ∀ b, Z.b = some b → Box H' b c) : Rep w Z O L' H' σ ⟨ε.s, c⟩ := by
  refine ⟨s, x.pn.trans e.ll, x.ex.trans e, fun b hb => ?_, fun a h => ⟨e.dom a (x.oh a h).1, (x.oh a h).2⟩, x.len, fun i y hy => ?_, x.di⟩
  · obtain ⟨h1, h2, h3⟩ := x.bo b hb
    exact ⟨e.fr b h1 h2.there, hc b hb, h3⟩
  · obtain ⟨o, h1, h2⟩ := x.sl i y hy
    refine ⟨o, h1, ?_⟩
    cases y with
    | un => trivial
    | sh d =>
      obtain ⟨v, e1, e2⟩ := h2
      exact ⟨v, e1, e2.to e.ll⟩
    | ow ds =>
      obtain ⟨a, xs, e1, e2, e3, e4, e5, e6⟩ := h2
      exact ⟨a, xs, e1, e2, e.fr a e3 (by rw [e5]; exact (fun z => nomatch z)), e4, e.hh _ _ e5 (x.nob e4), e6.to e.ll⟩
    | bx => exact h2
    | st S n =>
      obtain ⟨a, e1, e2, e3, e4, e5⟩ := h2
      exact ⟨a, e1, e2, e.fr a e3 (by rw [e5]; exact (fun z => nomatch z)), e4, e.hh _ _ e5 (x.nob e4)⟩
    | raw u => exact h2
/-! ### calls of defs -/
abbrev DSp := List SV → Nat → (R → Nat → Prop) → Prop
def MonF (F : DSp) : Prop := ∀ args c (A B : R → Nat → Prop), (∀ r c', A r c' → B r c') → F args c A → F args c B
def CallZ (b : Option Addr) (L H : Hp) (c : Nat) : Prop := Same L H ∧ ∀ a, b = some a → L a = none ∧ Box H a c
def ArgR (b : Option Addr) (L : Hp) (v : V) : SV → Prop
  | .sh d => DV L v d
  | .bx => ∃ a, b = some a ∧ v = .ref a
  | .raw u => v = u
  | _ => False
inductive ArgsR (b : Option Addr) (L : Hp) : List V → List SV → Prop
  | nil : ArgsR b L [] []
  | cons {v : V} {vs : List V} {x : SV} {xs : List SV} : ArgR b L v x → ArgsR b L vs xs → ArgsR b L (v :: vs) (x :: xs)
def spD (n : Nat) (F : DSp) : Sp := fun vs H Q _ => ∃ (b : Option Addr) (L : Hp) (c : Nat) (args : List SV), vs.length = n ∧ CallZ b L H c ∧ ArgsR b L vs args ∧
  F args c fun r c' => ∀ v L' H', CallZ b L' H' c' → Ext b L H L' H' → VR0 H L' H' v r → Q v H'
def R.arg : R → Option SV
  | .sh d => some (.sh d)
  | .br _ ds => some (.sh (.list ds))
  | .bx => some .bx
  | .raw v => some (.raw v)
  | _ => none
def argsOf : List R → Option (List SV)
  | [] => some []
  | r :: rs => match r.arg, argsOf rs with
    | some x, some xs => some (x :: xs)
    | _, _ => none
def hasBr : List R → Bool
  | [] => false
  | .br _ _ :: _ => true
  | _ :: rs => hasBr rs
def immR : R → Bool
  | .sh d => imm d
  | .nw ds => imms ds
  | _ => false
def dArgs (F : DSp) (rs : List R) (ε : Env) (Q : R → Env → Prop) : Prop := match argsOf rs with
  | some args => F args ε.c fun r c => match hasBr rs with
    | true => immR r = true ∧ Q r ⟨ε.s, c⟩
    | false => Q r ⟨ε.s, c⟩
  | none => False
theorem dArgs_mono {F : DSp} (hF : MonF F) {rs : List R} {ε : Env} {A B : R → Env → Prop} (h : ∀ r ε, A r ε → B r ε) (q : dArgs F rs ε A) : dArgs F rs ε B := by
  unfold dArgs at q ⊢
  split at q
  · refine hF _ _ _ _ (fun r c q => ?_) q
    split at q
    · exact ⟨q.1, h _ _ q.2⟩
    · exact h _ _ q
  · exact q.elim
section
variable {w : World} {Z : Zx} {O : Addr → Prop} {σ : L2.St} {ε : Env} {L H Hs : Hp}
theorem args_plain : ∀ {vs : List V} {rs : List R} {args : List SV}, VRs w Z O σ Hs L H vs rs → argsOf rs = some args → hasBr rs = false → ArgsR Z.b L vs args
  | _, _, _, .nil, e, _ => by cases e; exact .nil
  | _, r :: rs, args, .cons a b, e, h => by
    unfold argsOf at e
    split at e
    · rename_i x xs hx hxs
      cases e
      have h2 : hasBr rs = false := by cases r <;> first | exact h | cases h
      refine .cons ?_ (args_plain b hxs h2)
      cases r with
      | sh d => cases hx; exact a
      | br i ds => cases h
      | bx => cases hx; exact a
      | raw u => cases hx; exact a
      | nw ds => cases hx
      | sr i S n => cases hx
    · cases e
/-- the lists that slots own and arguments lend -/
def lent (σ : L2.St) (rs : List R) (a : Addr) : Prop := ∃ i ds, R.br i ds ∈ rs ∧ σ[i]? = some (some (.ref a))
theorem args_lent {L2 : Hp} (s : Same L L2) : ∀ {vs : List V} {rs : List R} {args : List SV}, VRs w Z O σ Hs L H vs rs → argsOf rs = some args → (∀ a, lent σ rs a → L2 a = H a) → ArgsR Z.b L2 vs args
  | _, _, _, .nil, e, _ => by cases e; exact .nil
  | _, r :: rs, args, .cons x y, e, h => by
    unfold argsOf at e
    split at e
    · rename_i z zs hz hzs
      cases e
      refine .cons ?_ (args_lent s y hzs fun a ⟨i, ds, h1, h2⟩ => h a ⟨i, ds, List.mem_cons_of_mem _ h1, h2⟩)
      cases r with
      | sh d => cases hz; exact DV.to x s
      | br i ds =>
        cases hz
        obtain ⟨a, xs, rfl, h1, h2, h3, h4, h5, h6⟩ := x
        exact .lst (by rw [h a ⟨i, ds, List.mem_cons_self, h1⟩]; exact h5) (h6.to s)
      | bx => cases hz; exact x
      | raw u => cases hz; exact x
      | nw ds => cases hz
      | sr i S n => cases hz
    · cases e
theorem lent_own : ∀ {vs : List V} {rs : List R} {a : Addr}, VRs w Z O σ Hs L H vs rs → lent σ rs a → O a ∧ Z.H0 a = none ∧ L a = none ∧ ∃ xs, H a = some (.lst xs)
  | _, _, _, .nil, h => by obtain ⟨i, ds, h1, _⟩ := h; cases h1
  | _, r :: rs, a, .cons x y, h => by
    obtain ⟨i, ds, h1, h2⟩ := h
    rcases List.mem_cons.mp h1 with rfl | h1
    · obtain ⟨b, xs, _, g1, g2, g3, g4, g5, g6⟩ := x
      rw [h2] at g1
      cases g1
      exact ⟨g2, g3, g4, xs, g5⟩
    · exact lent_own y ⟨i, ds, h1, h2⟩
open Classical in
theorem run_args {n : Nat} {F : DSp} (hF : MonF F) {vs : List V} {rs : List R} {Q : VK} {E : XK} {L0 H0 : Hp} (X : Rep w Z O L H σ ε) (e : Ext Z.b L0 H0 L H) (r : VRs w Z O σ Hs L H vs rs) (hn : vs.length = n)
    (q : dArgs F rs ε fun r ε' => ∀ v L' H', Rep w Z O L' H' σ ε' → Ext Z.b L0 H0 L' H' → VR w Z O σ H0 L' H' v r → Q v H') : spD n F vs H Q E := by
  unfold dArgs at q
  split at q
  · rename_i args ha
    have cz : ∀ b, Z.b = some b → L b = none ∧ Box H b ε.c := fun b hb => ⟨(X.bo b hb).1, (X.bo b hb).2.1⟩
    cases hb : hasBr rs with
    | false =>
      rw [hb] at q
      refine ⟨Z.b, L, ε.c, args, hn, ⟨X.lh, cz⟩, args_plain r ha hb, hF _ _ _ _ (fun r c q => ?_) q⟩
      intro v L' H' z' e' r'
      exact q v L' H' (X.exts e' z'.1 fun b hb => (z'.2 b hb).2) (e.trans e') ((r'.vr X).back e)
    | true =>
      rw [hb] at q
      let L2 : Hp := fun a => if lent σ rs a then H a else L a
      have h1 : ∀ a, lent σ rs a → L2 a = H a := fun a h => if_pos h
      have h0 : ∀ a, ¬ lent σ rs a → L2 a = L a := fun a h => if_neg h
      have s1 : Same L L2 := fun a o h => by
        by_cases q : lent σ rs a
        · rw [h1 a q]; exact X.lh a o h
        · rw [h0 a q]; exact h
      have s2 : Same L2 H := fun a o h => by
        by_cases q : lent σ rs a
        · rw [h1 a q] at h; exact h
        · rw [h0 a q] at h; exact X.lh a o h
      refine ⟨Z.b, L2, ε.c, args, hn, ⟨s2, fun b hb => ⟨?_, (cz b hb).2⟩⟩, args_lent s1 r ha h1, hF _ _ _ _ (fun u c q => ?_) q⟩
      · rw [h0 b fun h => (X.bo b hb).2.2 (lent_own r h).2.1]; exact (cz b hb).1
      intro v L' H' z' e' r'
      obtain ⟨hi, q⟩ := q
      let L3 : Hp := fun a => if lent σ rs a then none else L' a
      have k1 : ∀ a, lent σ rs a → L3 a = none := fun a h => if_pos h
      have k0 : ∀ a, ¬ lent σ rs a → L3 a = L' a := fun a h => if_neg h
      have s3 : Same L3 H' := fun a o h => by
        by_cases q : lent σ rs a
        · rw [k1 a q] at h; cases h
        · rw [k0 a q] at h; exact z'.1 a o h
      have e3 : Ext Z.b L H L3 H' := by
        refine ⟨fun a o h => ?_, e'.hh, e'.dom, fun a h d => ?_⟩
        · by_cases q : lent σ rs a
          · rw [(lent_own r q).2.2.1] at h; cases h
          · rw [k0 a q]; exact e'.ll a o (s1 a o h)
        · by_cases q : lent σ rs a
          · exact k1 a q
          · rw [k0 a q]; exact e'.fr a (by rw [h0 a q]; exact h) d
      have tups : ∀ a xs, Sol L' a xs → Sol L3 a xs := fun a xs ⟨o, ho, h⟩ => by
        by_cases q : lent σ rs a
        · obtain ⟨_, _, _, ys, hy⟩ := lent_own r q
          have := e'.ll a _ (by rw [h1 a q]; exact hy)
          rw [this] at h; cases h
        · exact ⟨o, ho, by rw [k0 a q]; exact h⟩
      have r3 : VR0 H L3 H' v u := by
        cases u with
        | sh d => exact DV.imm tups d v hi r'
        | nw ds =>
          obtain ⟨a, xs, rfl, g1, g2, g3, g4⟩ := r'
          refine ⟨a, xs, rfl, g1, ?_, g3, DVs.imm tups ds xs hi g4⟩
          by_cases q : lent σ rs a
          · exact k1 a q
          · rw [k0 a q]; exact g2
        | _ => exact r'.elim
      exact q v L3 H' (X.exts e3 s3 fun b hb => (z'.2 b hb).2) (e.trans e3) ((r3.vr X).back e)
  · exact q.elim
end
section
variable {w : World} {K : PySem.W.Frag} {ta te : TE} {f : DTE}
def dCall (F : DSp) (f : DTA)  (ε : Env) (Q : R → Env → Prop) : Prop := f ε fun rs ε1 => dArgs F rs ε1 Q
theorem se_call {n : Nat} {F : DSp} {t : TA} {f : DTA} {E : XK} (hF : MonF F) (hf : SA w n t f) : SE w (tCall (spD n F) [] E t) (dCall F f) := by
  constructor
  · intro ε A B h q
    exact hf.mono _ _ _ (fun rs ε1 q => dArgs_mono hF h q) q
  · intro Z O σ ε L H Q X q
    refine hf.run Z O σ ε L H _ X (hf.mono _ _ _ (fun rs ε1 q => ?_) q)
    intro vs L1 H1 X1 e1 r1 hl np
    rw [List.append_nil]
    exact run_args hF X1 e1 r1 (by rw [r1.len, hl]) q
/-- all arguments by name, from the last one on -/
def tCallR (sp : Sp) (E : XK) (tk : TA) : TE := fun σ H Q => tk σ H fun zs H2 => sp zs.reverse H2 Q E
def dCallR (F : DSp) (f : DTA)  (ε : Env) (Q : R → Env → Prop) : Prop := f ε fun rs ε1 => dArgs F rs.reverse ε1 Q
theorem VRs.snoc {Z : Zx} {O : Addr → Prop} {σ : L2.St} {Hs L H : Hp} {v : V} {r : R} (x : VR w Z O σ Hs L H v r) : ∀ {vs : List V} {rs : List R}, VRs w Z O σ Hs L H vs rs → VRs w Z O σ Hs L H (vs ++ [v]) (rs ++ [r])
  | _, _, .nil => .cons x .nil
  | _, _, .cons a b => .cons a (VRs.snoc x b)
theorem VRs.rev {Z : Zx} {O : Addr → Prop} {σ : L2.St} {Hs L H : Hp} : ∀ {vs : List V} {rs : List R}, VRs w Z O σ Hs L H vs rs → VRs w Z O σ Hs L H vs.reverse rs.reverse
  | _, _, .nil => .nil
  | _, _, .cons a b => by rw [List.reverse_cons, List.reverse_cons]; exact VRs.snoc a (VRs.rev b)
theorem se_callR {n : Nat} {F : DSp} {t : TA} {f : DTA} {E : XK} (hF : MonF F) (hf : SA w n t f) : SE w (tCallR (spD n F) E t) (dCallR F f) := by
  constructor
  · intro ε A B h q
    exact hf.mono _ _ _ (fun rs ε1 q => dArgs_mono hF h q) q
  · intro Z O σ ε L H Q X q
    refine hf.run Z O σ ε L H _ X (hf.mono _ _ _ (fun rs ε1 q => ?_) q)
    intro vs L1 H1 X1 e1 r1 hl np
    exact run_args hF X1 e1 r1.rev (by rw [List.length_reverse, r1.len, hl]) q
/-! ### comprehensions -/
def wipeE (ε : Env) : List Nat → List SV
  | [] => ε.s
  | v :: vs => (wipeE ε vs).set v .un
theorem wipe_get (σ : L2.St) (i : Nat) : ∀ vs : List Nat, (wipe σ vs)[i]? = if i ∈ vs then (if i < σ.length then some none else none) else σ[i]?
  | [] => by rw [if_neg List.not_mem_nil]; rfl
  | v :: vs => by
    unfold wipe
    rw [List.getElem?_set, wipe_length, wipe_get σ i vs]
    by_cases e : v = i
    · subst e
      rw [if_pos rfl, if_pos List.mem_cons_self]
    · rw [if_neg e]
      by_cases m : i ∈ vs
      · rw [if_pos m, if_pos (List.mem_cons_of_mem _ m)]
      · rw [if_neg m, if_neg (fun h => (List.mem_cons.mp h).elim (fun q => e q.symm) m)]
theorem wipe_but {σ σ' : L2.St} {vs : List Nat} (h : But vs (wipe σ vs) σ') : wipe σ' vs = wipe σ vs := by
  have hl : σ'.length = σ.length := by rw [h.1, wipe_length]
  refine List.ext_getElem? fun i => ?_
  rw [wipe_get, wipe_get]
  by_cases m : i ∈ vs
  · rw [if_pos m, if_pos m, hl]
  · rw [if_neg m, if_neg m, h.2 i m, wipe_get, if_neg m]
theorem wipeE_len (ε : Env) : ∀ vs : List Nat, (wipeE ε vs).length = ε.s.length
  | [] => rfl
  | v :: vs => by unfold wipeE; rw [List.length_set, wipeE_len ε vs]
theorem wipeE_get (ε : Env) (i : Nat) : ∀ (vs : List Nat) (x : SV), (wipeE ε vs)[i]? = some x → (i ∈ vs ∧ x = .un) ∨ (i ∉ vs ∧ ε.s[i]? = some x)
  | [], x, h => .inr ⟨List.not_mem_nil, h⟩
  | v :: vs, x, h => by
    unfold wipeE at h
    rcases get_set h with ⟨rfl, rfl, _⟩ | ⟨ne, h⟩
    · exact .inl ⟨List.mem_cons_self, rfl⟩
    · rcases wipeE_get ε i vs x h with ⟨m, e⟩ | ⟨m, e⟩
      · exact .inl ⟨List.mem_cons_of_mem _ m, e⟩
      · exact .inr ⟨fun q => (List.mem_cons.mp q).elim (fun z => ne z.symm) m, e⟩
theorem Rep.wipe {Z : Zx} {O : Addr → Prop} {σ : L2.St} {ε : Env} {L H : Hp} (x : Rep w Z O L H σ ε) (vs : List Nat) : Rep w Z O L H (L2.wipe σ vs) ⟨wipeE ε vs, ε.c⟩ := by
  refine ⟨x.lh, x.pn, x.ex, x.bo, x.oh, ?_, fun i y hy => ?_, fun i j y z a hij hy hz oy oz hi hj => ?_⟩
  · show (L2.wipe σ vs).length = (wipeE ε vs).length
    rw [wipe_length, wipeE_len]; exact x.len
  · have hl : i < σ.length := by
      have := (List.getElem?_eq_some_iff.mp hy).1
      rw [wipeE_len] at this
      rw [x.len]; exact this
    rcases wipeE_get ε i vs y hy with ⟨m, rfl⟩ | ⟨m, e⟩
    · exact ⟨none, by rw [wipe_get, if_pos m, if_pos hl], trivial⟩
    · obtain ⟨o, h1, h2⟩ := x.sl i y e
      exact ⟨o, by rw [wipe_get, if_neg m]; exact h1, h2⟩
  · rcases wipeE_get ε i vs y hy with ⟨m, rfl⟩ | ⟨m, e⟩
    · cases oy
    · rcases wipeE_get ε j vs z hz with ⟨m', rfl⟩ | ⟨m', e'⟩
      · cases oz
      · rw [wipe_get, if_neg m] at hi
        rw [wipe_get, if_neg m'] at hj
        exact x.di i j y z a hij e e' oy oz hi hj
def lcD (γ : DTG) (c : DTT) (f : DTE) (vs : List Nat) (s : List SV) (Q : R → Env → Prop) : List PyData → List PyData → Nat → Prop
  | [], acc, n => Q (.nw acc) ⟨s, n⟩
  | d :: ds, acc, n => γ d ⟨wipeE ⟨s, n⟩ vs, n⟩ fun ε1 => c ε1 fun b ε2 => if b = true then f ε2 fun r ε3 => match r.pub with
      | .sh e => acc.length < sizeLine ∧ lcD γ c f vs s Q ds (acc ++ [e]) ε3.c
      | _ => False
    else lcD γ c f vs s Q ds acc ε2.c
def dLc (i : DTI) (γ : DTG) (c : DTT) (f : DTE) (vs : List Nat)  (ε : Env) (Q : R → Env → Prop) : Prop := i ε fun ds _ ε1 => lcD γ c f vs ε1.s Q ds [] ε1.c
theorem lcD_mono {pk : Bool} {g : TG} {γ : DTG} {tt : TT} {c : DTT} {js vs : List Nat} {s : List SV} {A B : R → Env → Prop} (hg : SG w pk js g γ) (hc : ST w tt c) (hf : SE w te f) (h : ∀ r ε, A r ε → B r ε) : ∀ (ds acc : List PyData) (n : Nat), lcD γ c f vs s A ds acc n → lcD γ c f vs s B ds acc n
  | [], acc, n, z => h _ _ z
  | d :: ds, acc, n, z => by
    refine hg.mono _ _ _ _ (fun ε1 z => hc.mono _ _ _ (fun b ε2 z => ?_) z) z
    cases b with
    | true =>
      rw [if_pos rfl] at z ⊢
      refine hf.mono _ _ _ (fun r ε3 z => ?_) z
      split at z
      · exact ⟨z.1, lcD_mono hg hc hf h ds _ _ z.2⟩
      · exact z.elim
    | false =>
      rw [if_neg Bool.false_ne_true] at z ⊢
      exact lcD_mono hg hc hf h ds _ _ z
theorem se_lc {pk : Bool} {wi : TI} {i : DTI} {g : TG} {γ : DTG} {tt : TT} {c : DTT} {vs : List Nat} (hi : SI w pk wi i) (hg : SG w pk vs g γ) (hc : ST w tt c) (hf : SE w te f) : SE w (tLc wi g tt te vs) (dLc i γ c f vs) := by
  constructor
  · intro ε A B h z
    exact hi.mono _ _ _ (fun ds b ε1 z => lcD_mono hg hc hf h ds [] _ z) z
  · intro Z O σ ε L H Q X z
    refine hi.run Z O σ ε L H _ X (hi.mono _ _ _ (fun ds b ε1 z => ?_) z)
    intro J L1 H1 X1 e1 W _ D nD
    have eD : Ext none L1 H1 L1 (upd H1 D (.lst [])) := Ext.own nD
    have X1' := X1.step eD (same_own X1.lh (X1.lh.free nD))
    have n0 : Z.H0 D = none := X1.ex.free nD
    have nO : ¬ O D := fun o => (X1.oh D o).1 nD
    have bD : Z.b ≠ some D := X1.nob n0
    refine ⟨fun k m H2 => k + m = ds.length ∧ ∃ L2 n acc xs, Rep w Z O L2 H2 σ ⟨ε1.s, n⟩ ∧ Ext Z.b L1 H1 L2 H2 ∧ H2 D = some (.lst xs) ∧ DVs L2 xs acc ∧ L2 D = none ∧ lcD γ c f vs ε1.s (fun r ε' => ∀ v L' H', Rep w Z O L' H' σ ε' → Ext Z.b L H L' H' → VR w Z O σ H L' H' v r → Q v H') (ds.drop k) acc n,
      ⟨ds.length, by omega, L1, ε1.c, [], [], X1', eD.any, upd_same, .nil, X1.lh.free nD, by rw [List.drop_zero]; exact z⟩, ?_⟩
    rintro k m H2 ⟨hkm, L2, n, acc, xs, X2, e2, hD, rD, lD, z2⟩
    have e2' := e2
    by_cases hlt : k < ds.length
    · refine .inr ⟨W.go k L2 H2 e2' X2.lh hlt, fun H' => ∃ L2 n acc xs, Rep w Z O L2 H' σ ⟨ε1.s, n⟩ ∧ Ext Z.b L1 H1 L2 H' ∧ H' D = some (.lst xs) ∧ DVs L2 xs acc ∧ L2 D = none ∧ lcD γ c f vs ε1.s (fun r ε' => ∀ v L' H', Rep w Z O L' H' σ ε' → Ext Z.b L H L' H' → VR w Z O σ H L' H' v r → Q v H') (ds.drop (k + 1)) acc n,
        fun H' q => ⟨m - 1, by omega, by omega, q⟩, fun x H' y => ?_⟩
      have hd : ds[k]? = some ds[k] := List.getElem?_eq_getElem hlt
      rw [List.drop_eq_getElem_cons hlt] at z2
      obtain ⟨L3, e3, s3, r3⟩ := W.yld k ds[k] L2 H2 x H' e2' X2.lh hd y
      have X3 := X2.step e3 s3
      have hD3 := e3.hh D _ hD (fun z => nomatch z)
      have lD3 : L3 D = none := e3.fr D lD (by rw [hD]; exact (fun z => nomatch z))
      refine hg.run Z O _ _ L3 H' x ds[k] _ (X3.wipe vs) r3 (hg.mono _ _ _ _ (fun ε3 z3 σ3 X4 b3 => ⟨wipe_but b3, ?_⟩) z2)
      refine hc.run Z O σ3 ε3 L3 H' _ X4 (hc.mono _ _ _ (fun b ε4 z4 => ?_) z3)
      intro L5 H5 X5 e5
      have hD5 := e5.hh D _ hD3 bD
      have lD5 : L5 D = none := e5.fr D lD3 (by rw [hD3]; exact (fun z => nomatch z))
      have e35 := (e3.any (b := Z.b)).trans e5
      cases b with
      | true =>
        rw [if_pos rfl] at z4 ⊢
        refine hf.run Z O σ3 ε4 L5 H5 _ X5 (hf.mono _ _ _ (fun r ε6 z6 => ?_) z4)
        intro v L6 H6 X6 e6 r6
        split at z6
        · rename_i d' hd'
          obtain ⟨L7, X7, e7, r7⟩ := publ X6 e6 r6
          rw [hd'] at r7
          have hD6 := e7.hh D _ hD5 bD
          have lD7 : L7 D = none := e7.fr D lD5 (by rw [hD5]; exact (fun z => nomatch z))
          have et := e35.trans e7
          have rD7 : DVs L7 xs acc := rD.to et.ll
          have X8 : Rep w Z O L7 H6 σ ⟨ε1.s, ε6.c⟩ := X2.exts et X7.lh fun b hb => (X7.bo b hb).2.1
          refine ⟨xs, hD6, by rw [rD7.len]; exact z6.1, L7, ε6.c, acc ++ [d'], xs ++ [v], ?_, ?_, upd_same, rD7.app (.one r7), lD7, z6.2⟩
          · refine ⟨same_own X8.lh lD7, X8.pn, ⟨X8.ex.ll, fun a o h nb => ?_, fun a h => ?_, X8.ex.fr⟩, fun b hb => ?_, fun a h => ⟨?_, (X8.oh a h).2⟩, X8.len, fun i y hy => ?_, X8.di⟩
            · rw [upd_ne (ne_of_none h n0)]; exact X8.ex.hh a o h nb
            · by_cases q : a = D
              · rw [q, upd_same]; exact (fun z => nomatch z)
              · rw [upd_ne q]; exact X8.ex.dom a h
            · obtain ⟨q1, q2, q3⟩ := X8.bo b hb
              exact ⟨q1, q2.keep (upd_ne (ne_at q3 n0)), q3⟩
            · rw [upd_ne (fun q => nO (by rw [← q]; exact h))]; exact (X8.oh a h).1
            · obtain ⟨o, q1, q2⟩ := X8.sl i y hy
              refine ⟨o, q1, ?_⟩
              cases y with
              | ow ds =>
                obtain ⟨a, ys, g1, g2, g3, g4, g5, g6⟩ := q2
                exact ⟨a, ys, g1, g2, g3, g4, by rw [upd_ne (fun q => nO (by rw [← q]; exact g2))]; exact g5, g6⟩
              | st S n =>
                obtain ⟨a, g1, g2, g3, g4, g5⟩ := q2
                exact ⟨a, g1, g2, g3, g4, by rw [upd_ne (fun q => nO (by rw [← q]; exact g2))]; exact g5⟩
              | _ => exact q2
          · have e27 := e2.trans et
            refine ⟨e27.ll, fun a o h nb => ?_, fun a h => ?_, e27.fr⟩
            · rw [upd_ne (ne_of_none h nD)]; exact e27.hh a o h nb
            · by_cases q : a = D
              · rw [q, upd_same]; exact (fun z => nomatch z)
              · rw [upd_ne q]; exact e27.dom a h
        · exact z6.elim
      | false =>
        rw [if_neg Bool.false_ne_true] at z4 ⊢
        have X8 : Rep w Z O L5 H5 σ ⟨ε1.s, ε4.c⟩ := X2.exts e35 X5.lh fun b hb => (X5.bo b hb).2.1
        exact ⟨L5, ε4.c, acc, xs, X8, e2.trans e35, hD5, rD.to e35.ll, lD5, z4⟩
    · have e : k = ds.length := by omega
      subst e
      rw [List.drop_length] at z2
      refine .inl ⟨W.stop L2 H2 e2' X2.lh, z2 _ L2 H2 X2 (e1.trans e2') ⟨D, xs, rfl, e1.free nD, nO, n0, lD, hD, rD⟩⟩
/-! ### a def -/
def env0 (args : List SV) (k : Nat) (c : Nat) : Env := ⟨args ++ List.replicate k .un, c⟩
def defF (k : Nat) (p : DTS) (args : List SV) (c : Nat) (Q : R → Nat → Prop) : Prop := p { nx := fun ε => Q (.sh .none) ε.c, rt := fun r ε => Q r ε.c } (env0 args k c)
theorem ArgsR.len {b : Option Addr} {L : Hp} : ∀ {vs : List V} {xs : List SV}, ArgsR b L vs xs → vs.length = xs.length
  | _, _, .nil => rfl
  | _, _, .cons _ r => by rw [List.length_cons, List.length_cons, r.len]
theorem ArgsR.get {b : Option Addr} {L : Hp} : ∀ {vs : List V} {xs : List SV} {i : Nat} {x : SV}, ArgsR b L vs xs → xs[i]? = some x → ∃ v, vs[i]? = some v ∧ ArgR b L v x
  | _, _, _, _, .nil, e => by simp at e
  | _, _, 0, _, .cons a _, e => by simp at e; subst e; exact ⟨_, rfl, a⟩
  | _, _, i + 1, x, .cons _ r, e => by
    obtain ⟨v, h1, h2⟩ := ArgsR.get (i := i) (x := x) r (by simpa using e)
    exact ⟨v, by simpa using h1, h2⟩
theorem rep_start {N : List Str} {b : Option Addr} {L H : Hp} {c k : Nat} {vs : List V} {args : List SV} (z : CallZ b L H c) (a : ArgsR b L vs args) (hk : N.length = vs.length + k) : Rep w ⟨b, L, H, fun _ => none⟩ (fun _ => False) L H (start N vs) (env0 args k c) := by
  have hl := a.len
  have un : ∀ (i : Nat) (x : SV), (env0 args k c).s[i]? = some x → (∃ v, vs[i]? = some v ∧ ArgR b L v x) ∨ (vs.length ≤ i ∧ x = .un) := by
    intro i x hx
    have hx : (args ++ List.replicate k SV.un)[i]? = some x := hx
    by_cases hi : i < args.length
    · rw [List.getElem?_append_left hi] at hx
      exact .inl (a.get hx)
    · rw [List.getElem?_append_right (by omega)] at hx
      have := List.mem_of_getElem? hx
      exact .inr ⟨by omega, List.eq_of_mem_replicate this⟩
  have nown : ∀ (i : Nat) (x : SV), (env0 args k c).s[i]? = some x → Own x = true → False := by
    intro i x hx ho
    rcases un i x hx with ⟨v, _, r⟩ | ⟨_, rfl⟩
    · cases x with
      | ow ds => exact r
      | st S n => exact r
      | _ => cases ho
    · cases ho
  refine ⟨z.1, (fun _ _ h => nomatch h), Ext.refl _ _ _, fun d hd => ⟨(z.2 d hd).1, (z.2 d hd).2, (z.2 d hd).2.there⟩, fun _ h => h.elim, ?_, fun i x hx => ?_, fun i j x y d _ hx _ ox => (nown i x hx ox).elim⟩
  · show (start N vs).length = (args ++ List.replicate k SV.un).length
    unfold L2.start
    rw [List.length_append, List.length_map, List.length_replicate, List.length_append, List.length_replicate]
    omega
  · have hi : i < vs.length + k := by
      have := (List.getElem?_eq_some_iff.mp hx).1
      have e : (env0 args k c).s.length = args.length + k := by
        show (args ++ List.replicate k SV.un).length = _
        rw [List.length_append, List.length_replicate]
      omega
    rcases un i x hx with ⟨v, h1, r⟩ | ⟨h1, rfl⟩
    · have hv : i < vs.length := (List.getElem?_eq_some_iff.mp h1).1
      refine ⟨some v, ?_, ?_⟩
      · unfold L2.start
        rw [List.getElem?_append_left (by rw [List.length_map]; exact hv), List.getElem?_map, h1]; rfl
      · cases x with
        | sh d => exact ⟨v, rfl, r⟩
        | bx =>
          obtain ⟨d, h2, rfl⟩ := r
          exact ⟨d, h2, rfl⟩
        | raw u =>
          cases (show v = u from r)
          rfl
        | _ => exact r.elim
    · refine ⟨none, ?_, trivial⟩
      unfold L2.start
      rw [List.getElem?_append_right (by rw [List.length_map]; exact h1), List.getElem?_replicate, if_pos (by rw [List.length_map]; omega)]
end
section
variable {P : Program} {w : World} {K : PySem.W.Frag} {mg : Str → Option Value} {base : Heap}
theorem run_def {N ps : List Str} {t : TS} {p : DTS} {k : Nat} (hp : SS w t p) (hk : N.length = ps.length + k) {vs : List V} {H : Hp} {Q : VK} {E : XK} (h : spD ps.length (defF k p) vs H Q E) : t { nx := fun _ H' => Q .non H', rt := Q } (start N vs) H := by
  obtain ⟨b, L, c, args, hn, z, a, q⟩ := h
  refine hp.run _ _ _ _ L H _ _ (rep_start (w := w) z a (by omega)) ?_ q
  refine ⟨fun O σ ε L' H' X q => ?_, fun O σ ε L' H' v r X hr q => ?_, fun O σ ε L' H' X q => q.elim, fun O σ ε L' H' X q => q.elim⟩
  · exact q .non L' H' ⟨X.lh, fun a ha => ⟨(X.bo a ha).1, (X.bo a ha).2.1⟩⟩ X.ex DV.non
  · exact q v L' H' ⟨X.lh, fun a ha => ⟨(X.bo a ha).1, (X.bo a ha).2.1⟩⟩ X.ex hr
theorem spD_len {n : Nat} {F : DSp} {vs : List V} {H : Hp} {Q : VK} {E : XK} (h : spD n F vs H Q E) : vs.length = n := by
  obtain ⟨b, L, c, args, hn, _⟩ := h
  exact hn
theorem spD_imp {n : Nat} {F G : DSp} (h : ∀ args c Q, F args c Q → G args c Q) {vs : List V} {H : Hp} {Q : VK} {E : XK} (x : spD n F vs H Q E) : spD n G vs H Q E := by
  obtain ⟨b, L, c, args, hn, z, a, q⟩ := x
  exact ⟨b, L, c, args, hn, z, a, h _ _ _ q⟩
/-- a def by its data -/
theorem okD {x qual : Str} {st : Stmt} {f : Addr} {fd : FuncData} {N ps : List Str} {k j : Nat} {p : DTS} {F : DSp} (G : Fun K x qual st f fd) (S : FnScope N ps (defScope st)) (hj : N.length = ps.length + j)
    (body : ∀ (cdv : Value) (A : Around) (outer : List PySem.Env) (s : Shared) (H : Hp) (E : XK), Room k (A.deeper (envOfC qual (defScope st) s.heap.objs.size f cdv)) → ∃ t, PSs (cxOf CX0 P w K mg base N qual (defScope st) f cdv A outer s H E).nox (defBody st) t ∧ SS w t p)
    (h : ∀ args c Q, F args c Q → defF j p args c Q) : FnOk P w K mg base CX0 (k + 1) f fd ps (spD ps.length F) := by
  refine G.ok S (fun vs H Q E h => spD_len h) fun cdv A outer s H vs Q E hr q => ?_
  obtain ⟨t, ht, hs⟩ := body cdv A outer s H E hr
  exact ⟨t, ht, run_def hs hj (spD_imp h q)⟩
end
end Lp

namespace Lp
open PySem PySem.Spec PyProof.Rows L2
/-! ### rules that join rules -/
theorem op_or {X : Cx} {f : Value → Value → Sem Value} {r r' : R2} (h : OpR X f r) (h' : OpR X f r') : OpR X f (fun x y H Q => r x y H Q ∨ r' x y H Q) :=
  fun pins s σ H x y v u Q I rx ry q => q.elim (h pins s σ H x y v u Q I rx ry) (h' pins s σ H x y v u Q I rx ry)
theorem cr_or {X : Cx} {f : Value} {r r' : List V → Hp → VK → Prop} (h : CallR X f r) (h' : CallR X f r') : CallR X f (fun x H Q => r x H Q ∨ r' x H Q) :=
  fun pins s σ H xs us Q I rx q => q.elim (h pins s σ H xs us Q I rx) (h' pins s σ H xs us Q I rx)
theorem sl_or {X : Cx} {r r' : V → Option Int → Option Int → Hp → VK → Prop} (h : SlR X r) (h' : SlR X r') : SlR X (fun x l u H Q => r x l u H Q ∨ r' x l u H Q) := by
  intro pins s σ H x v vl vu lo hi sl Q I rx hs pl pu q
  rcases q with q | q
  · exact h pins s σ H x v vl vu lo hi sl Q I rx hs pl pu q
  · exact h' pins s σ H x v vl vu lo hi sl Q I rx hs pl pu q
/-! ### ints -/
abbrev Φ2 := PyData → PyData → (R → Prop) → Prop
abbrev ext0 (L H : Hp) (s : Same L H) : Ext none L H L H := Ext.refl none L H
/-- ints in, an int out -/
def φI (h : Int → Int → Int)  (x y : PyData) (Q : R → Prop) : Prop := match x, y with
  | .int i, .int j => Q (.sh (.int (h i j)))
  | _, _ => False
def φB (h : Int → Int → Bool)  (x y : PyData) (Q : R → Prop) : Prop := match x, y with
  | .int i, .int j => Q (.sh (.bool (h i j)))
  | _, _ => False
def φC (C : Int → Int → Prop) (h : Int → Int → Int)  (x y : PyData) (Q : R → Prop) : Prop := match x, y with
  | .int i, .int j => C i j ∧ Q (.sh (.int (h i j)))
  | _, _ => False
theorem r2_I {h : Int → Int → Int} : R2K (rI0 fun i j => .int (h i j)) (φI h) := by
  constructor
  · intro x y A B hAB q
    unfold φI at q ⊢
    split at q
    · exact hAB _ q
    · exact q.elim
  · intro L H x y dx dy Q s hx hy q
    unfold φI at q
    split at q
    · exact ⟨_, _, hx.int, hy.int, q _ L H (Ext.refl _ _ _) s (.int _)⟩
    · exact q.elim
theorem r2_B {h : Int → Int → Bool} : R2K (rI0 fun i j => .bl (h i j)) (φB h) := by
  constructor
  · intro x y A B hAB q
    unfold φB at q ⊢
    split at q
    · exact hAB _ q
    · exact q.elim
  · intro L H x y dx dy Q s hx hy q
    unfold φB at q
    split at q
    · exact ⟨_, _, hx.int, hy.int, q _ L H (Ext.refl _ _ _) s (.bl _)⟩
    · exact q.elim
theorem r2_C {C : Int → Int → Prop} {h : Int → Int → Int} : R2K (rI C fun i j => .int (h i j)) (φC C h) := by
  constructor
  · intro x y A B hAB q
    unfold φC at q ⊢
    split at q
    · exact ⟨q.1, hAB _ q.2⟩
    · exact q.elim
  · intro L H x y dx dy Q s hx hy q
    unfold φC at q
    split at q
    · exact ⟨_, _, hx.int, hy.int, q.1, q.2 _ L H (Ext.refl _ _ _) s (.int _)⟩
    · exact q.elim
def φNeg (x : PyData) (Q : R → Prop) : Prop := match x with
  | .int i => Q (.sh (.int (-i)))
  | _ => False
theorem ru_neg : RUK (rU fun i => .int (-i)) φNeg := by
  constructor
  · intro x A B hAB q
    cases x <;> first | exact hAB _ q | exact q.elim
  · intro L H x dx Q s hx q
    cases dx <;> first | exact ⟨_, hx.int, q _ L H (Ext.refl _ _ _) s (.int _)⟩ | exact q.elim
/-! ### a + b -/
abbrev rAdd (K : PySem.W.Frag) : R2 := fun x y H Q => rI0 (fun i j => .int (i + j)) x y H Q ∨ (rCat x y H Q ∨ rCatS K x y H Q)
theorem op_addA {X : Cx} : OpR X (binaryOp .Add) (rAdd X.K) := op_or op_add (op_or op_cat op_catS)
def φAdd  (x y : PyData) (Q : R → Prop) : Prop := match x, y with
  | .int i, .int j => Q (.sh (.int (i + j)))
  | .list a, .list b => a.length + b.length ≤ sizeLine ∧ Q (.nw (a ++ b))
  | .tuple a, .tuple b => a.length + b.length ≤ sizeLine ∧ Q (.sh (.tuple (a ++ b)))
  | _, _ => False
theorem DVs.nil_iff {H : Hp} {vs : List V} {ds : List PyData} (h : DVs H vs ds) : vs = [] ↔ ds = [] := by
  cases h with
  | nil => exact ⟨fun _ => rfl, fun _ => rfl⟩
  | cons _ _ => exact ⟨(fun z => nomatch z), (fun z => nomatch z)⟩
theorem r2_add {K : PySem.W.Frag} : R2K (rAdd K) φAdd := by
  constructor
  · intro x y A B hAB q
    unfold φAdd at q ⊢
    split at q
    · exact hAB _ q
    · exact ⟨q.1, hAB _ q.2⟩
    · exact ⟨q.1, hAB _ q.2⟩
    · exact q.elim
  · intro L H x y dx dy Q s hx hy q
    unfold φAdd at q
    split at q
    · exact .inl ⟨_, _, hx.int, hy.int, q _ L H (Ext.refl _ _ _) s (.int _)⟩
    · obtain ⟨a, xs, rfl, h1, h2⟩ := hx.lst s
      obtain ⟨b, ys, rfl, h3, h4⟩ := hy.lst s
      refine .inr (.inl ⟨a, b, xs, ys, rfl, rfl, h1, h3, by rw [h2.len, h4.len]; exact q.1, fun p np => ?_⟩)
      exact q.2 _ L _ (Ext.own np) (same_own s (s.free np)) ⟨p, _, rfl, np, s.free np, upd_same, h2.app h4⟩
    · obtain ⟨a, xs, rfl, h1, h2⟩ := hx.tup
      obtain ⟨b, ys, rfl, h3, h4⟩ := hy.tup
      refine .inr (.inr ⟨a, b, xs, ys, rfl, rfl, (h1.to s).seq, (h3.to s).seq, by rw [h2.len, h4.len]; exact q.1, fun e => ?_, fun e => ?_, fun p o np no => ?_⟩)
      · have e2 := h2.nil_iff.mp e
        rw [e2, List.nil_append] at q
        exact q.2 _ L H (Ext.refl _ _ _) s (.tup h3 h4)
      · have e2 := h4.nil_iff.mp e
        rw [e2, List.append_nil] at q
        exact q.2 _ L H (Ext.refl _ _ _) s (.tup h1 h2)
      · have e1 : Ext none L H (upd L p (.frz o (.tup (xs ++ ys)))) (upd H p (.frz o (.tup (xs ++ ys)))) := Ext.new s np
        exact q.2 _ _ _ e1 (same_both s) (.tup ⟨o, no, upd_same⟩ ((h2.app h4).to e1.ll))
    · exact q.elim
/-! ### a * b -/
abbrev rMulA : R2 := fun x y H Q => rI CMulW (fun i j => .int (i * j)) x y H Q ∨ rRep x y H Q
theorem op_mulA {X : Cx} : OpR X (binaryOp .Mult) rMulA := op_or op_mulW op_rep
def φMul  (x y : PyData) (Q : R → Prop) : Prop := match x, y with
  | .int i, .int j => CMulW i j ∧ Q (.sh (.int (i * j)))
  | .list a, .int k => (-(2 ^ 63) ≤ k ∧ k < 2 ^ 63 ∧ a.length * k.toNat ≤ sizeLine) ∧ Q (.nw (List.replicate k.toNat a).flatten)
  | _, _ => False
theorem DVs.rep {H : Hp} {vs : List V} {ds : List PyData} (h : DVs H vs ds) : ∀ n : Nat, DVs H (List.replicate n vs).flatten (List.replicate n ds).flatten
  | 0 => .nil
  | n + 1 => by rw [List.replicate_succ, List.replicate_succ, List.flatten_cons, List.flatten_cons]; exact h.app (h.rep n)
theorem r2_mul : R2K rMulA φMul := by
  constructor
  · intro x y A B hAB q
    unfold φMul at q ⊢
    split at q
    · exact ⟨q.1, hAB _ q.2⟩
    · exact ⟨q.1, hAB _ q.2⟩
    · exact q.elim
  · intro L H x y dx dy Q s hx hy q
    unfold φMul at q
    split at q
    · exact .inl ⟨_, _, hx.int, hy.int, q.1, q.2 _ L H (Ext.refl _ _ _) s (.int _)⟩
    · obtain ⟨a, xs, rfl, h1, h2⟩ := hx.lst s
      refine .inr ⟨a, _, xs, rfl, hy.int, h1, q.1.1, q.1.2.1, by rw [h2.len]; exact q.1.2.2, fun p np => ?_⟩
      exact q.2 _ L _ (Ext.own np) (same_own s (s.free np)) ⟨p, _, rfl, np, s.free np, upd_same, h2.rep _⟩
    · exact q.elim
/-! ### a[i] -/
def PyData.its : PyData → Option (List PyData)
  | .list ds => some ds
  | .tuple ds => some ds
  | _ => none
def φIx  (x y : PyData) (Q : R → Prop) : Prop := match PyData.its x, y with
  | some ds, .int i => ∃ d, atI ds i = some d ∧ Q (.sh d)
  | _, _ => False
theorem atI_dv {H : Hp} {vs : List V} {ds : List PyData} {i : Int} {d : PyData} (h : DVs H vs ds) (e : atI ds i = some d) : ∃ v, atI vs i = some v ∧ DV H v d := by
  unfold atI at e ⊢
  rw [← h.len] at e
  cases hx : ixN vs.length i with
  | none => rw [hx] at e; cases e
  | some j =>
    rw [hx] at e
    exact h.get e
theorem r2_ix {K : PySem.W.Frag} : R2K (rIx K) φIx := by
  constructor
  · intro x y A B hAB q
    unfold φIx at q ⊢
    split at q
    · obtain ⟨d, h1, h2⟩ := q
      exact ⟨d, h1, hAB _ h2⟩
    · exact q.elim
  · intro L H x y dx dy Q s hx hy q
    unfold φIx at q
    split at q
    · rename_i ds i hd
      obtain ⟨d, e, q⟩ := q
      cases dx with
      | list es =>
        cases hd
        obtain ⟨a, xs, rfl, h1, h2⟩ := hx.lst s
        obtain ⟨v, h3, h4⟩ := atI_dv h2 e
        exact .inl ⟨a, xs, i, v, rfl, hy.int, SqL.of h1, h3, q v L H (Ext.refl _ _ _) s h4⟩
      | tuple es =>
        cases hd
        obtain ⟨a, xs, rfl, h1, h2⟩ := hx.tup
        obtain ⟨v, h3, h4⟩ := atI_dv h2 e
        exact .inr (.inl ⟨a, xs, i, v, rfl, hy.int, (h1.to s).seq, h3, q v L H (Ext.refl _ _ _) s h4⟩)
      | _ => cases hd
    · exact q.elim
mutual
theorem DV.uniq {H : Hp} : ∀ {v : V} (d e : PyData), DV H v d → DV H v e → d = e
  | _, .none, _, .non, h => by cases h; rfl
  | _, .bool _, _, .bl _, h => by cases h; rfl
  | _, .int _, _, .int _, h => by cases h; rfl
  | _, .str _, _, .str _, h => by cases h; rfl
  | _, .list ds, e, .lst h1 h2, h => by
    cases h with
    | lst g1 g2 =>
      rw [h1] at g1
      cases g1
      rw [DVs.uniq' ds _ h2 g2]
    | tup g1 g2 =>
      obtain ⟨o, _, g⟩ := g1
      rw [h1] at g; cases g
  | _, .tuple ds, e, .tup h1 h2, h => by
    cases h with
    | tup g1 g2 =>
      cases h1.inj g1
      rw [DVs.uniq' ds _ h2 g2]
    | lst g1 g2 =>
      obtain ⟨o, _, g⟩ := h1
      rw [g] at g1; cases g1
theorem DVs.uniq' {H : Hp} : ∀ {vs : List V} (ds es : List PyData), DVs H vs ds → DVs H vs es → ds = es
  | _, [], _, .nil, h => by cases h; rfl
  | _, d :: ds, _, .cons h1 h2, h => by
    cases h with
    | cons g1 g2 => rw [DV.uniq d _ h1 g1, DVs.uniq' ds _ h2 g2]
end
theorem DVs.uniq {H : Hp} {vs : List V} {ds es : List PyData} (h : DVs H vs ds) (k : DVs H vs es) : ds = es := DVs.uniq' ds es h k
/-! ### a[i:j] -/
def cutD (ds : List PyData) (lo hi : Option Int) : List PyData := (ds.drop (HT.sIx ds.length 0 lo)).take (HT.sIx ds.length ds.length hi - HT.sIx ds.length 0 lo)
theorem cut_dv {H : Hp} {vs : List V} {ds : List PyData} (h : DVs H vs ds) (lo hi : Option Int) : DVs H (cutV vs lo hi) (cutD ds lo hi) := by
  unfold cutV cutD
  rw [h.len]
  exact (h.drop _).take _
def φSl (x : PyData) (l h : Option Int) (Q : R → Prop) : Prop := match x with
  | .list ds => Q (.nw (cutD ds l h))
  | .tuple ds => Q (.sh (.tuple (cutD ds l h)))
  | _ => False
abbrev rSlB (K : PySem.W.Frag) : V → Option Int → Option Int → Hp → VK → Prop := fun x l u H Q => rSlL K x l u H Q ∨ rSlS K x l u H Q
theorem sl_both {X : Cx} : SlR X (rSlB X.K) := sl_or sl_list sl_tupS
theorem rs_sl {K : PySem.W.Frag} : RSK (rSlB K) φSl := by
  constructor
  · intro x l h A B hAB q
    cases x <;> first | exact hAB _ q | exact q.elim
  · intro L H x d l h Q s hx q
    cases d with
    | list ds =>
      obtain ⟨a, xs, rfl, h1, h2⟩ := hx.lst s
      exact .inl ⟨a, xs, rfl, SqL.of h1, fun p np => q _ L _ (Ext.own np) (same_own s (s.free np)) ⟨p, _, rfl, np, s.free np, upd_same, cut_dv h2 l h⟩⟩
    | tuple ds =>
      obtain ⟨a, xs, rfl, h1, h2⟩ := hx.tup
      refine .inr ⟨a, xs, rfl, (h1.to s).seq, fun e => ?_, fun p o np no => ?_⟩
      · have e2 : cutD ds l h = ds := by
          have k1 := cut_dv h2 l h
          rw [e] at k1
          exact DVs.uniq k1 h2
        have q2 : (fun r => ∀ v L' H', Ext none L H L' H' → Same L' H' → VR0 H L' H' v r → Q v H') (.sh (.tuple ds)) := by
          rw [← e2]; exact q
        exact q2 _ L H (Ext.refl _ _ _) s (.tup h1 h2)
      · have e1 : Ext none L H (upd L p (.frz o (.tup (cutV xs l h)))) (upd H p (.frz o (.tup (cutV xs l h)))) := Ext.new s np
        exact q _ _ _ e1 (same_both s) (.tup ⟨o, no, upd_same⟩ ((cut_dv h2 l h).to e1.ll))
    | _ => exact q.elim
/-! ### a == b, a != b, a is None -/
abbrev rEqI : R2 := rI0 fun i j => .bl (decide (i = j))
theorem op_eqI {X : Cx} : OpR X (compareOp .Eq) rEqI := fun pins s σ H x y v u Q I rx ry q => by
  obtain ⟨i, j, rfl, rfl, q⟩ := q
  refine op_eq pins s σ H _ _ v u Q I rx ry ⟨rfl, ?_⟩
  have e : decide (V.int i = V.int j) = decide (i = j) := by simp
  rw [e]; exact q
abbrev rNeI : R2 := rI0 fun i j => .bl (!decide (i = j))
theorem op_neI {X : Cx} : OpR X (compareOp .NotEq) rNeI := fun pins s σ H x y v u Q I rx ry q => by
  obtain ⟨i, j, rfl, rfl, q⟩ := q
  refine op_ne pins s σ H _ _ v u Q I rx ry ⟨rfl, ?_⟩
  have e : decide (V.int i = V.int j) = decide (i = j) := by simp
  rw [e]; exact q
/-- two texts -/
abbrev rEqS : R2 := fun x y H Q => ∃ a b : Str, x = .str a ∧ y = .str b ∧ Q (.bl (decide (a = b))) H
theorem op_eqS {X : Cx} : OpR X (compareOp .Eq) rEqS := fun pins s σ H x y v u Q I rx ry q => by
  obtain ⟨i, j, rfl, rfl, q⟩ := q
  refine op_eq pins s σ H _ _ v u Q I rx ry ⟨rfl, ?_⟩
  have e : decide (V.str i = V.str j) = decide (i = j) := by simp
  rw [e]; exact q
abbrev rNeS : R2 := fun x y H Q => ∃ a b : Str, x = .str a ∧ y = .str b ∧ Q (.bl (!decide (a = b))) H
theorem op_neS {X : Cx} : OpR X (compareOp .NotEq) rNeS := fun pins s σ H x y v u Q I rx ry q => by
  obtain ⟨i, j, rfl, rfl, q⟩ := q
  refine op_ne pins s σ H _ _ v u Q I rx ry ⟨rfl, ?_⟩
  have e : decide (V.str i = V.str j) = decide (i = j) := by simp
  rw [e]; exact q
abbrev rEqA (K : PySem.W.Frag) : R2 := fun x y H Q => rEqI x y H Q ∨ (rEqS x y H Q ∨ rEqD K x y H Q)
abbrev rNeA (K : PySem.W.Frag) : R2 := fun x y H Q => rNeI x y H Q ∨ (rNeS x y H Q ∨ rNeD K x y H Q)
theorem op_eqA {X : Cx} (hu : X.A.units + 64 < cLine) : OpR X (compareOp .Eq) (rEqA X.K) := op_or op_eqI (op_or op_eqS (op_eqD hu))
theorem op_neA {X : Cx} (hu : X.A.units + 64 < cLine) : OpR X (compareOp .NotEq) (rNeA X.K) := op_or op_neI (op_or op_neS (op_neD hu))
def φEq (neg : Bool)  (x y : PyData) (Q : R → Prop) : Prop := match x, y with
  | .int i, .int j => Q (.sh (.bool (if neg then !decide (i = j) else decide (i = j))))
  | .str i, .str j => Q (.sh (.bool (if neg then !decide (i = j) else decide (i = j))))
  | x, y => (SeqAt.shaped x = true ∧ SeqAt.shaped y = true) ∧ Q (.sh (.bool (if neg then !PyData.eqv x y else PyData.eqv x y)))
theorem φEq_mono {neg : Bool} {x y : PyData} {A B : R → Prop} (hAB : ∀ r, A r → B r) (q : φEq neg x y A) : φEq neg x y B := by
  cases x <;> cases y <;> first | exact hAB _ q | exact ⟨q.1, hAB _ q.2⟩
theorem r2_eq {K : PySem.W.Frag} : R2K (rEqA K) (φEq false) := by
  constructor
  · intro x y A B hAB q
    exact φEq_mono hAB q
  · intro L H x y dx dy Q s hx hy q
    unfold φEq at q
    split at q
    · exact .inl ⟨_, _, hx.int, hy.int, q _ L H (Ext.refl _ _ _) s (.bl _)⟩
    · exact .inr (.inl ⟨_, _, hx.str, hy.str, q _ L H (Ext.refl _ _ _) s (.bl _)⟩)
    · exact .inr (.inr ⟨_, _, DV.dp _ _ (hx.dv s), DV.dp _ _ (hy.dv s), q.1.1, q.1.2, q.2 _ L H (Ext.refl _ _ _) s (.bl _)⟩)
theorem r2_ne {K : PySem.W.Frag} : R2K (rNeA K) (φEq true) := by
  constructor
  · intro x y A B hAB q
    exact φEq_mono hAB q
  · intro L H x y dx dy Q s hx hy q
    unfold φEq at q
    split at q
    · exact .inl ⟨_, _, hx.int, hy.int, q _ L H (Ext.refl _ _ _) s (.bl _)⟩
    · exact .inr (.inl ⟨_, _, hx.str, hy.str, q _ L H (Ext.refl _ _ _) s (.bl _)⟩)
    · exact .inr (.inr ⟨_, _, DV.dp _ _ (hx.dv s), DV.dp _ _ (hy.dv s), q.1.1, q.1.2, q.2 _ L H (Ext.refl _ _ _) s (.bl _)⟩)
def isN : PyData → Bool
  | .none => true
  | _ => false
theorem isN_V {L H : Hp} {v : V} {d : PyData} (h : VL L H v d) : decide (v = .non) = isN d := by
  cases d with
  | none => rw [h.non]; rfl
  | bool b => rw [h.bl]; rfl
  | int i => rw [h.int]; rfl
  | str x => rw [h.str]; rfl
  | list ds =>
    rcases h with h | ⟨a, xs, es, e, rfl, _⟩
    · cases h; rfl
    · rfl
  | tuple ds => obtain ⟨a, xs, rfl, _⟩ := h.tup; rfl
  | dict _ =>
    rcases h with h | ⟨a, xs, es, e, rfl, _⟩
    · cases h
    · rfl
def φIsN (neg : Bool)  (x y : PyData) (Q : R → Prop) : Prop := match y with
  | .none => Q (.sh (.bool (if neg then !isN x else isN x)))
  | _ => False
abbrev rIsN : R2 := fun x y H Q => y = .non ∧ Q (.bl (decide (x = .non))) H
abbrev rNotN : R2 := fun x y H Q => y = .non ∧ Q (.bl (!decide (x = .non))) H
theorem r2_isN : R2K rIsN (φIsN false) := by
  constructor
  · intro x y A B hAB q
    cases y <;> first | exact hAB _ q | exact q.elim
  · intro L H x y dx dy Q s hx hy q
    cases dy with
    | none => exact ⟨hy.non, q _ L H (Ext.refl _ _ _) s (by rw [isN_V hx]; exact .bl _)⟩
    | _ => exact q.elim
theorem r2_notN : R2K rNotN (φIsN true) := by
  constructor
  · intro x y A B hAB q
    cases y <;> first | exact hAB _ q | exact q.elim
  · intro L H x y dx dy Q s hx hy q
    cases dy with
    | none => exact ⟨hy.non, q _ L H (Ext.refl _ _ _) s (by rw [isN_V hx]; exact .bl _)⟩
    | _ => exact q.elim
/-! ### a in b -/
def flatD : PyData → Option V
  | .none => some .non
  | .bool b => some (.bl b)
  | .int i => some (.int i)
  | .str x => some (.str x)
  | _ => none
def flatsD : List PyData → Option (List V)
  | [] => some []
  | d :: ds => match flatD d, flatsD ds with
    | some v, some vs => some (v :: vs)
    | _, _ => none
theorem flat_is {H : Hp} {v u : V} {d : PyData} (h : DV H v d) (e : flatD d = some u) : v = u ∧ flatV v = true := by
  cases h <;> first | (cases e; exact ⟨rfl, rfl⟩) | cases e
theorem flats_is {H : Hp} : ∀ {vs us : List V} {ds : List PyData}, DVs H vs ds → flatsD ds = some us → vs = us ∧ vs.all flatV = true
  | _, _, _, .nil, e => by cases e; exact ⟨rfl, rfl⟩
  | _, _, _, .cons a r, e => by
    unfold flatsD at e
    split at e
    · rename_i x xs hx hxs
      cases e
      obtain ⟨h1, h2⟩ := flat_is a hx
      obtain ⟨h3, h4⟩ := flats_is r hxs
      exact ⟨by rw [h1, h3], by rw [List.all_cons, h2, h4]; rfl⟩
    · cases e
/-- flat things by what they are; others by data -/
def φIn (neg : Bool)  (x y : PyData) (Q : R → Prop) : Prop := match PyData.its y with
  | some ds => match flatD x, flatsD ds with
    | some v, some vs => Q (.sh (.bool (if neg then !inV v vs else inV v vs)))
    | _, _ => (y = .list ds ∧ SeqAt.shaped x = true ∧ SeqAt.shaped y = true) ∧ Q (.sh (.bool (if neg then !(ds.any fun z => PyData.eqv z x) else ds.any fun z => PyData.eqv z x)))
  | none => False
theorem φIn_mono {neg : Bool} {x y : PyData} {A B : R → Prop} (hAB : ∀ r, A r → B r) (q : φIn neg x y A) : φIn neg x y B := by
  unfold φIn at q ⊢
  split at q
  · split at q
    · exact hAB _ q
    · exact ⟨q.1, hAB _ q.2⟩
  · exact q.elim
abbrev rInA (K : PySem.W.Frag) : R2 := fun x y H Q => rIn K false x y H Q ∨ rInD K x y H Q
abbrev rNotInA (K : PySem.W.Frag) : R2 := fun x y H Q => rIn K true x y H Q ∨ rNotInD K x y H Q
theorem op_inA {X : Cx} (hu : X.A.units + 65 < cLine) : OpR X (compareOp .In) (rInA X.K) := op_or op_in_seq (op_inD hu)
theorem op_notInA {X : Cx} (hu : X.A.units + 65 < cLine) : OpR X (compareOp .NotIn) (rNotInA X.K) := op_or op_notIn_seq (op_notInD hu)
theorem its_seq {K : PySem.W.Frag} {L H : Hp} {v : V} {d : PyData} {ds : List PyData} (h : VL L H v d) (s : Same L H) (e : PyData.its d = some ds) : ∃ a xs, v = .ref a ∧ (SqL K H a xs ∨ SqT K H a xs) ∧ DVs L xs ds := by
  cases d with
  | list es =>
    cases e
    obtain ⟨a, xs, rfl, h1, h2⟩ := h.lst s
    exact ⟨a, xs, rfl, .inl (SqL.of h1), h2⟩
  | tuple es =>
    cases e
    obtain ⟨a, xs, rfl, h1, h2⟩ := h.tup
    exact ⟨a, xs, rfl, .inr (h1.to s).seq, h2⟩
  | _ => cases e
theorem r2_in {K : PySem.W.Frag} : R2K (rInA K) (φIn false) := by
  constructor
  · intro x y A B hAB q
    exact φIn_mono hAB q
  · intro L H x y dx dy Q s hx hy q
    unfold φIn at q
    split at q
    · rename_i ds hds
      obtain ⟨a, xs, rfl, h1, h2⟩ := its_seq (K := K) hy s hds
      split at q
      · rename_i v vs hv hvs
        obtain ⟨e1, f1⟩ := flat_is (hx.dv s) hv
        obtain ⟨e2, f2⟩ := flats_is h2 hvs
        subst e1
        subst e2
        exact .inl ⟨a, _, rfl, h1, f1, f2, q _ L H (Ext.refl _ _ _) s (.bl _)⟩
      · obtain ⟨⟨e, s1, s2⟩, q⟩ := q
        subst e
        exact .inr ⟨_, ds, DV.dp _ _ (hx.dv s), DV.dp _ _ (hy.dv s), s1, s2, q _ L H (Ext.refl _ _ _) s (.bl _)⟩
    · exact q.elim
theorem r2_notIn {K : PySem.W.Frag} : R2K (rNotInA K) (φIn true) := by
  constructor
  · intro x y A B hAB q
    exact φIn_mono hAB q
  · intro L H x y dx dy Q s hx hy q
    unfold φIn at q
    split at q
    · rename_i ds hds
      obtain ⟨a, xs, rfl, h1, h2⟩ := its_seq (K := K) hy s hds
      split at q
      · rename_i v vs hv hvs
        obtain ⟨e1, f1⟩ := flat_is (hx.dv s) hv
        obtain ⟨e2, f2⟩ := flats_is h2 hvs
        subst e1
        subst e2
        exact .inl ⟨a, _, rfl, h1, f1, f2, q _ L H (Ext.refl _ _ _) s (.bl _)⟩
      · obtain ⟨⟨e, s1, s2⟩, q⟩ := q
        subst e
        exact .inr ⟨_, ds, DV.dp _ _ (hx.dv s), DV.dp _ _ (hy.dv s), s1, s2, q _ L H (Ext.refl _ _ _) s (.bl _)⟩
    · exact q.elim
end Lp

namespace Lp
open PySem PySem.Spec PyProof.Rows L2
/-! ### ints as data -/
abbrev IL (ns : List Int) : List V := ns.map V.int
abbrev dI (ns : List Int) : List PyData := ns.map PyData.int
theorem sz {n : Nat} (h : n ≤ 100000) : n ≤ sizeLine := Nat.le_trans h (by decide)
theorem szl {n : Nat} (h : n < 100000) : n < sizeLine := Nat.lt_of_lt_of_le h (by decide)
theorem dvs_ints {H : Hp} : ∀ ns : List Int, DVs H (IL ns) (dI ns)
  | [] => .nil
  | x :: r => .cons (.int x) (dvs_ints r)
theorem ints_dvs {H : Hp} : ∀ {vs : List V} {ns : List Int}, DVs H vs (dI ns) → vs = IL ns
  | _, [], .nil => rfl
  | _, _ :: _, .cons (.int _) r => by rw [ints_dvs r]; rfl
theorem IL_get {ns : List Int} {i : Nat} {z : Int} (h : ns[i]? = some z) : (IL ns)[i]? = some (.int z) := by
  rw [List.getElem?_map, h]; rfl
/-- all ints of ns lie in 0 .. n - 1 -/
def Low (n : Nat) (ns : List Int) : Prop := ∀ z ∈ ns, 0 ≤ z ∧ z < (n : Int)
theorem Low.app {n : Nat} {fs : List Int} {z : Int} (h : Low n fs) (h0 : 0 ≤ z) (h1 : z < (n : Int)) : Low n (fs ++ [z]) := fun y hy => by
  rcases List.mem_append.mp hy with h2 | h2
  · exact h y h2
  · rw [List.mem_singleton] at h2
    subst h2; exact ⟨h0, h1⟩
theorem Low.set {n : Nat} {fs : List Int} {z : Int} {i : Nat} (h : Low n fs) (h0 : 0 ≤ z) (h1 : z < (n : Int)) : Low n (fs.set i z) := fun y hy => by
  rcases List.mem_or_eq_of_mem_set hy with h2 | h2
  · exact h y h2
  · subst h2; exact ⟨h0, h1⟩
theorem Low.at {n : Nat} {fs : List Int} {z : Int} {i : Nat} (h : Low n fs) (e : fs[i]? = some z) : 0 ≤ z ∧ z < (n : Int) := h z (List.mem_of_getElem? e)
/-- data that are all ints -/
def intsD : List PyData → Option (List Int)
  | [] => some []
  | .int i :: ds => match intsD ds with
    | some ns => some (i :: ns)
    | none => none
  | _ :: _ => none
theorem intsD_dI : ∀ ns : List Int, intsD (dI ns) = some ns
  | [] => rfl
  | x :: r => by
    show (match intsD (dI r) with | some ns => some (x :: ns) | none => none) = _
    rw [intsD_dI r]
theorem intsD_is : ∀ {ds : List PyData} {ns : List Int}, intsD ds = some ns → ds = dI ns
  | [], _, h => by cases h; rfl
  | .int i :: ds, ns, h => by
    unfold intsD at h
    split at h
    · rename_i ms hm
      cases h
      rw [intsD_is hm]; rfl
    · cases h
  | .none :: _, _, h => by cases h
  | .bool _ :: _, _, h => by cases h
  | .str _ :: _, _, h => by cases h
  | .list _ :: _, _, h => by cases h
  | .tuple _ :: _, _, h => by cases h
  | .dict _ :: _, _, h => by cases h
def boolsD : List PyData → Option (List Bool)
  | [] => some []
  | .bool i :: ds => match boolsD ds with
    | some ns => some (i :: ns)
    | none => none
  | _ :: _ => none
abbrev dB (bs : List Bool) : List PyData := bs.map PyData.bool
theorem boolsD_dB : ∀ bs : List Bool, boolsD (dB bs) = some bs
  | [] => rfl
  | x :: r => by
    show (match boolsD (dB r) with | some ns => some (x :: ns) | none => none) = _
    rw [boolsD_dB r]
theorem boolsD_is : ∀ {ds : List PyData} {ns : List Bool}, boolsD ds = some ns → ds = dB ns
  | [], _, h => by cases h; rfl
  | .bool i :: ds, ns, h => by
    unfold boolsD at h
    split at h
    · rename_i ms hm
      cases h
      rw [boolsD_is hm]; rfl
    · cases h
  | .none :: _, _, h => by cases h
  | .int _ :: _, _, h => by cases h
  | .str _ :: _, _, h => by cases h
  | .list _ :: _, _, h => by cases h
  | .tuple _ :: _, _, h => by cases h
  | .dict _ :: _, _, h => by cases h
theorem bools_dvs {H : Hp} : ∀ {vs : List V} {ns : List Bool}, DVs H vs (dB ns) → vs = ns.map V.bl
  | _, [], .nil => rfl
  | _, _ :: _, .cons (.bl _) r => by rw [bools_dvs r]; rfl
/-- data that are all tuples of ints, none empty -/
def tupsD : List PyData → Option (List (List Int))
  | [] => some []
  | .tuple es :: ds => match intsD es, tupsD ds with
    | some (n :: ns), some nss => some ((n :: ns) :: nss)
    | _, _ => none
  | _ :: _ => none
abbrev dT (nss : List (List Int)) : List PyData := nss.map fun ns => .tuple (dI ns)
theorem tupsD_dT : ∀ nss : List (List Int), (∀ ns ∈ nss, ns ≠ []) → tupsD (dT nss) = some nss
  | [], _ => rfl
  | [] :: r, h => absurd rfl (h [] List.mem_cons_self)
  | (x :: y) :: r, h => by
    show (match intsD (dI (x :: y)), tupsD (dT r) with | some (n :: ns), some nss => some ((n :: ns) :: nss) | _, _ => none) = _
    rw [intsD_dI, tupsD_dT r fun ns hn => h ns (List.mem_cons_of_mem _ hn)]
theorem tupsD_is : ∀ {ds : List PyData} {nss : List (List Int)}, tupsD ds = some nss → ds = dT nss ∧ ∀ ns ∈ nss, ns ≠ []
  | [], _, h => by cases h; exact ⟨rfl, fun _ h => nomatch h⟩
  | .tuple es :: ds, nss, h => by
    unfold tupsD at h
    split at h
    · rename_i n ns ms h1 h2
      cases h
      obtain ⟨e, k⟩ := tupsD_is h2
      rw [e, intsD_is h1]
      exact ⟨rfl, fun x hx => (List.mem_cons.mp hx).elim (fun z => by rw [z]; exact (fun q => nomatch q)) (k x)⟩
    · cases h
  | .none :: _, _, h => by cases h
  | .bool _ :: _, _, h => by cases h
  | .int _ :: _, _, h => by cases h
  | .str _ :: _, _, h => by cases h
  | .list _ :: _, _, h => by cases h
  | .dict _ :: _, _, h => by cases h
end Lp

namespace Lp
open PySem PySem.Spec PyProof.Rows L2
/-! ### sorting tuples of ints -/
theorem lex_asym : ∀ xs ys : List Int, HT.lexLt xs ys = true → HT.lexLt ys xs = false
  | [], [], _ => rfl
  | [], _ :: _, _ => rfl
  | _ :: _, [], h => by cases h
  | x :: xs, y :: ys, h => by
    rw [HT.lexLt_cons] at h ⊢
    by_cases e : x = y
    · rw [if_pos e] at h; rw [if_pos e.symm]; exact lex_asym xs ys h
    · rw [if_neg e] at h; rw [if_neg (Ne.symm e)]
      have := of_decide_eq_true h
      exact decide_eq_false (by omega)
theorem lex_tr : ∀ xs ys zs : List Int, HT.lexLt ys xs = false → HT.lexLt zs ys = false → HT.lexLt zs xs = false
  | [], _, [], _, _ => rfl
  | [], _, _ :: _, _, _ => rfl
  | _ :: _, [], _, h, _ => by cases h
  | _ :: _, _ :: _, [], _, h => by cases h
  | x :: xs, y :: ys, z :: zs, h1, h2 => by
    rw [HT.lexLt_cons] at h1 h2 ⊢
    by_cases e1 : y = x
    · rw [if_pos e1] at h1
      by_cases e2 : z = y
      · rw [if_pos e2] at h2
        rw [if_pos (e2.trans e1)]
        exact lex_tr xs ys zs h1 h2
      · rw [if_neg e2] at h2
        rw [if_neg (fun e => e2 (e.trans e1.symm)), ← e1]; exact h2
    · rw [if_neg e1] at h1
      have a := of_decide_eq_false h1
      by_cases e2 : z = y
      · rw [if_neg (fun e => e1 (e2.symm.trans e))]
        exact decide_eq_false (by omega)
      · rw [if_neg e2] at h2
        have b := of_decide_eq_false h2
        rw [if_neg (by omega)]
        exact decide_eq_false (by omega)
theorem lex_eq : ∀ xs ys : List Int, HT.lexLt xs ys = false → HT.lexLt ys xs = false → xs = ys
  | [], [], _, _ => rfl
  | [], _ :: _, h, _ => by cases h
  | _ :: _, [], _, h => by cases h
  | x :: xs, y :: ys, h1, h2 => by
    rw [HT.lexLt_cons] at h1 h2
    by_cases e : x = y
    · rw [if_pos e] at h1
      rw [if_pos e.symm] at h2
      rw [e, lex_eq xs ys h1 h2]
    · rw [if_neg e] at h1
      rw [if_neg (Ne.symm e)] at h2
      have := of_decide_eq_false h1
      have := of_decide_eq_false h2
      omega
abbrev ltK (k : Value → List Int) : Value → Value → Bool := fun v u => HT.lexLt (k v) (k u)
theorem swoK (k : Value → List Int) : SrtO.Swo (ltK k) := ⟨fun x y h => lex_asym _ _ h, fun x y z h1 h2 => lex_tr _ _ _ h1 h2⟩
section
variable {prog : Program} {w : World} {A : Around} {E : Value → Shared → Prop} {s : Shared}
theorem kat_ints : ∀ {xs ys : List Value} {ns ms : List Int} {fin : Bool} (i : Nat), IntsAre xs ns → IntsAre ys ms → fin = decide (ns.length < ms.length) →
    PySem.W.KatLex prog w A true fin (fun r s' => s' = s ∧ r = HT.lexLt ns ms) (xs.zip ys) i s
  | _, _, _, _, fin, i, .nil, .nil, h => PySem.W.kat_nil ⟨rfl, by rw [h]; rfl⟩
  | _, _, _, _, fin, i, .nil, .cons m u r, h => PySem.W.kat_nil ⟨rfl, by rw [h]; exact decide_eq_true (Nat.succ_pos _)⟩
  | _, _, _, _, fin, i, .cons n t r, .nil, h => PySem.W.kat_nil ⟨rfl, by rw [h]; exact decide_eq_false (Nat.not_lt_zero _)⟩
  | _, _, _, _, fin, i, .cons (ns := ns) n t r, .cons (ns := ms) m u r', h => by
    refine PySem.W.kat_cons (SeqAt.EqAt.int_int n t m u prog w _ _ ?_)
    refine PySem.W.kat_go (fun e => ?_) (fun e => ?_)
    · have en : n = m := by simpa using e
      refine PySem.W.kat_yes ?_
      have ih := kat_ints (fin := fin) (i + 1) r r' (by rw [h]; simp)
      rw [HT.lexLt_cons, if_pos en]
      exact ih
    · have en : ¬ n = m := by simpa using e
      refine PySem.W.kat_no (TS.oneLt_ints _ ?_)
      rw [HT.lexLt_cons, if_neg en]
      exact ⟨rfl, rfl⟩
/-- what is asked of the values: tuples of ints, none empty -/
def KeyOk (h : Heap) (k : Value → List Int) (vs : List Value) : Prop := ∀ v ∈ vs, TS.TupInts h v (k v) ∧ k v ≠ []
theorem KeyOk.keeps {h h' : Heap} {k : Value → List Int} {vs : List Value} (x : KeyOk h k vs) (q : ∀ b o, h.get? b = some o → o.cls = .type "tuple" → h'.get? b = some o) : KeyOk h' k vs := fun v hv => ⟨(x v hv).1.keeps q, (x v hv).2⟩
theorem key_cmp {vs : List Value} {k : Value → List Int} (x : KeyOk s.heap k vs) : SrtO.Cmp prog w A s (tuples' true) (fun p => p.1 ∈ vs) (SrtO.lt2 (ltK k)) := by
  intro p q hp hq
  obtain ⟨⟨a, xs, e, ⟨o, ho, _, n, hd⟩, i⟩, _⟩ := x _ hp
  obtain ⟨⟨b, ys, e', ⟨o', ho', _, n', hd'⟩, i'⟩, _⟩ := x _ hq
  show wpAny (model prog w) A (keyLt' (tuples' true) p.1 q.1) (fun r s' => s' = s ∧ r = HT.lexLt (k p.1) (k q.1)) (fun _ _ => False) s
  rw [e] at i ⊢
  rw [e'] at i' ⊢
  refine PySem.W.kat_lt ho hd ho' hd' (kat_ints 0 i i' ?_)
  rw [← i.length, ← i'.length, Array.length_toList, Array.length_toList]
theorem key_firsts {h : Heap} {k : Value → List Int} : ∀ vs : List Value, KeyOk h k vs → ∃ fs, PySem.W.KatTups h vs fs ∧ fs.length = vs.length ∧ ∀ f ∈ fs, ∃ n t, f = Value.int n t
  | [], _ => ⟨[], .nil, rfl, fun _ z => nomatch z⟩
  | v :: vs, x => by
    obtain ⟨fs, k1, k2, k3⟩ := key_firsts vs fun u hu => x u (List.mem_cons_of_mem _ hu)
    obtain ⟨⟨a, xs, e, ⟨o, ho, hc, n, hd⟩, i⟩, ne⟩ := x v List.mem_cons_self
    subst e
    generalize hz : k (.ref a) = z at i ne
    generalize hy : xs.toList = ys at i
    cases i with
    | nil => exact absurd rfl ne
    | cons m t r =>
      refine ⟨.int m t :: fs, .cons ho hc hd ?_ k1, congrArg (· + 1) k2, fun f hf => ?_⟩
      · rw [← Array.getElem?_toList, hy]; rfl
      · rcases List.mem_cons.mp hf with q | q
        · exact ⟨m, t, q⟩
        · exact k3 f q
theorem key_sortable {a : Addr} {vs : List Value} {k : Value → List Int} (x : KeyOk s.heap k vs) (h0 : 2 ≤ vs.length) (ha : ∀ o, s.heap.get? a = some o → o.cls ≠ .type "tuple") : SrtO.SortableO prog w A s a vs (ltK k) := by
  intro h' keep
  have x' : KeyOk h' k vs := x.keeps fun b o e c => keep b o (fun z => ha o (z ▸ e) c) e
  obtain ⟨fs, f1, f2, f3⟩ := key_firsts vs x'
  refine ⟨tuples' true, fun Q E hq => ?_, key_cmp (s := { s with heap := h' }) x'⟩
  refine PySem.W.kat_kind (T := .type "int") f1 (by omega) (fun f hf => ?_) (by rfl) ?_
  · obtain ⟨n, t, e⟩ := f3 f hf
    rw [e]
    exact PySem.W.Looks.now
  · rw [show (Value.type "int" != Value.type "tuple") = true by decide +kernel]
    exact hq
end
/-- the address of a value, its ints -/
def refOf : Value → Addr
  | .ref a => a
  | _ => 0
abbrev RL (L : List (Addr × List Int)) : List V := L.map fun p => V.ref p.1
abbrev RW (L : List (Addr × List Int)) : List Value := L.map fun p => Value.ref p.1
/-- L' is L in ascending order -/
def Ranked (L' : List (Addr × List Int)) : Prop := L'.Pairwise fun x y => HT.lexLt y.2 x.2 = false
section
variable {X : Cx}
def kf (h : Heap) (v : Value) : Addr × List Int := (refOf v, TS.intsOf h v)
theorem kf_map {h : Heap} {L : List (Addr × List Int)} (x : ∀ p ∈ L, TS.TupInts h (.ref p.1) p.2) : (RW L).map (kf h) = L := by
  rw [List.map_map]
  refine (List.map_congr_left fun p hp => ?_).trans (List.map_id L)
  show (p.1, TS.intsOf h (.ref p.1)) = p
  rw [(x p hp).ints]
theorem kf_back {h : Heap} {L : List (Addr × List Int)} : ∀ {out : List Value}, (∀ v ∈ out, v ∈ RW L) → out = RW (out.map (kf h))
  | [], _ => rfl
  | v :: r, x => by
    obtain ⟨p, _, e⟩ := List.mem_map.mp (x v List.mem_cons_self)
    have ih := kf_back (h := h) (L := L) (out := r) fun u hu => x u (List.mem_cons_of_mem _ hu)
    show v :: r = Value.ref (refOf v) :: RW (r.map (kf h))
    rw [← ih, ← e]; rfl
theorem tupInts_at {pins : List (Addr × Obj)} {σ : L2.St} {H : Hp} {s : Shared} {b : Addr} {k : List Int} (I : Inv X pins σ H s) (h : SqT X.K H b (IL k)) : TS.TupInts s.heap (.ref b) k := tupInts_of (I.isT h)
/-- sorted(xs), xs a list of tuples of ints, none empty -/
def rSortL (K : PySem.W.Frag) : List V → Hp → VK → Prop := fun vs H Q => ∃ (a : Addr) (L : List (Addr × List Int)), vs = [V.ref a] ∧ SqL K H a (RL L) ∧ (∀ p ∈ L, SqT K H p.1 (IL p.2) ∧ p.2 ≠ []) ∧
  ∀ L' q, L'.Perm L → Ranked L' → H q = none → Q (.ref q) (upd H q (.lst (RL L')))
theorem cr_sortL : CallR X (.builtin "sorted") (rSortL X.K) := by
  intro pins s σ H vs us Q I r h
  obtain ⟨a, L, rfl, hs, hx, q⟩ := h
  obtain ⟨its, rv, hl, hz⟩ := I.list hs
  rw [Vals.ref1 r]
  have ei : its = RW L := refs_of_vals rv
  subst ei
  have tup : ∀ p ∈ L, TS.TupInts s.heap (.ref p.1) p.2 := fun p hp => tupInts_at I (hx p hp).1
  have key : KeyOk s.heap (TS.intsOf s.heap) (RW L) := fun v hv => by
    obtain ⟨p, hp, rfl⟩ := List.mem_map.mp hv
    rw [(tup p hp).ints]
    exact ⟨tup p hp, (hx p hp).2⟩
  refine SrtO.sorted_ord (swoK (TS.intsOf s.heap)) hl.isList (by rw [← rv.length]; exact hz) (fun h2 h₁ a' ha kk => ?_) fun out o1 o2 => ?_
  · refine key_sortable (s := { s with heap := h₁ }) (key.keeps fun b o e _ => (kk b o e).2) h2 fun o e c => ?_
    cases ha.symm.trans e
    exact absurd (Value.type.inj c) (by decide)
  · have back := kf_back (h := s.heap) (L := L) (out := out) fun v hv => o2.perm.mem_iff.mp hv
    have pm : (out.map (kf s.heap)).Perm L := by
      have := o2.perm.map (kf s.heap)
      rw [kf_map tup] at this
      exact this
    have rk : Ranked (out.map (kf s.heap)) := List.pairwise_map.mpr o1
    obtain ⟨ep, he⟩ := PyProof.Rows.sortedAll_at s.heap (RW L) out.toArray
    have vals : Vals (RL (out.map (kf s.heap))) out := by
      have : Vals (RL (out.map (kf s.heap))) (RW (out.map (kf s.heap))) := vals_of_refs _
      rw [← back] at this
      exact this
    refine ⟨.ref _, upd H (s.heap.objs.size + 1) (.lst (RL (out.map (kf s.heap)))), I.laid (t' := s.toks) (fun _ _ => PyProof.Rows.sortedAll_old) (Nat.le_succ _) ⟨?_, out, ep, vals, he⟩, rfl, q _ _ pm rk (I.hok.fresh (Nat.le_succ _))⟩
    rw [List.length_map, pm.length_eq]
    rw [List.length_map] at hz; exact hz
/-- sorted(set), of tuples of ints, none empty -/
def rSortS (K : PySem.W.Frag) (P : Program) (w : World) : List V → Hp → VK → Prop := fun vs H Q => ∃ (a : Addr) (L : List (Addr × List Int)), vs = [V.ref a] ∧ H a = some (SetTO P w a L) ∧ (∀ p ∈ L, SqT K H p.1 (IL p.2) ∧ p.2 ≠ []) ∧
  ∀ L' q, L'.Perm L → Ranked L' → (L'.map (·.2)).Nodup → H q = none → Q (.ref q) (upd H q (.lst (RL L')))
theorem cr_sortS (hc : X.calm = true) : CallR X (.builtin "sorted") (rSortS X.K X.prog X.w) := by
  intro pins s σ H vs us Q I r h
  obtain ⟨a, L, rfl, ha, hx, q⟩ := h
  have R0 : SetT0 X.prog X.w s.heap a L := (I.hok a _ ha).1
  obtain ⟨es, ep, t, R⟩ := R0.full fun p hp => I.isT (hx p hp).1
  rw [Vals.ref1 r]
  obtain ⟨o, ho, hex, hd⟩ := R.ob
  have few := R.few
  have siz := R.size
  refine Calls.call_function_entry PyProof.Rows.kind_sorted PyProof.Rows.plain_sorted PyProof.Rows.entry_sorted (PyProof.Rows.args_sorted1 _) ?_
  unfold Builtin.«sorted»
  refine wpAny_bind (m := checkCount "sorted" 1 1 _) (wpAny_pure (wpAny_bind (collect_set (A := X.A.in1) (I.ok.hd hc) ⟨o, ho, hex.1, hd⟩ R.fits (by show es.size < 4096; omega) R.tab.ris R.led ?_)))
  intro s1 out0 k1 hz g1 o1 pm
  have rows : es.toList.map (·.2) = RW L := by
    rw [R.rows]; unfold rowsOf; rw [List.map_map]; rfl
  rw [rows] at pm
  have len0 : out0.length = L.length := by rw [pm.length_eq, List.length_map]
  refine wpAny_bind (wpAny_newList ?_ (sz (by omega)))
  have hoL : (s1.heap.push (seqObj "list" out0.toArray 0)).get? s1.heap.objs.size = some (seqObj "list" out0.toArray 0) := Heap.get?_push_size _ rfl
  have tup : ∀ p ∈ L, TS.TupInts (s1.heap.push (seqObj "list" out0.toArray 0)) (.ref p.1) p.2 := fun p hp => tupInts_of (isT_keep (R.tup p hp) fun b u e => Heap.get?_push_of_some _ (k1 b u e))
  have key : KeyOk (s1.heap.push (seqObj "list" out0.toArray 0)) (TS.intsOf (s1.heap.push (seqObj "list" out0.toArray 0))) out0 := fun v hv => by
    obtain ⟨p, hp, rfl⟩ := List.mem_map.mp (pm.mem_iff.mp hv)
    rw [(tup p hp).ints]
    exact ⟨tup p hp, (hx p hp).2⟩
  refine wpAny_bind (wpAny_holding (wpAny_call_entry PyProof.Rows.slot_list_sort ⟨_, hoL, rfl⟩ PyProof.Rows.entry_list_sort (SrtO.list_sort_ord (s := { s1 with heap := s1.heap.push (seqObj "list" out0.toArray 0) }) (swoK (TS.intsOf (s1.heap.push (seqObj "list" out0.toArray 0)))) hoL (sz (by omega)) (fun h2 => ?_) fun out q1 q2 => ⟨_, rfl, ?_⟩) (PyProof.Rows.args_list_sort _)))
  · refine key_sortable (s := { s1 with heap := s1.heap.push (seqObj "list" out0.toArray 0) }) key h2 fun o e c => ?_
    cases hoL.symm.trans e
    exact absurd (Value.type.inj c) (by decide)
  · obtain ⟨c, hcL⟩ := sortedHeap_at (vs := out0) (out := out.toArray) hoL
    generalize hh : s1.heap.push (seqObj "list" out0.toArray 0) = h2 at *
    have back := kf_back (h := h2) (L := L) (out := out) fun v hv => pm.mem_iff.mp (q2.perm.mem_iff.mp hv)
    have pL : (out.map (kf h2)).Perm L := by
      have := (q2.perm.trans pm).map (kf h2)
      rw [kf_map tup] at this
      exact this
    have rk : Ranked (out.map (kf h2)) := List.pairwise_map.mpr q1
    have hn : H s1.heap.objs.size = none := I.hok.fresh hz
    have vals : Vals (RL (out.map (kf h2))) out := by
      have : Vals (RL (out.map (kf h2))) (RW (out.map (kf h2))) := vals_of_refs _
      rw [← back] at this
      exact this
    have keep : ∀ b u, s.heap.get? b = some u → (sortedHeap h2 s1.heap.objs.size out0 out.toArray).get? b = some u := fun b u e => by
      have lt := Heap.lt_size (k1 b u e)
      rw [sortedHeap_old (Nat.ne_of_lt lt) (by rw [← hh, size_push']; exact Nat.lt_succ_of_lt lt), ← hh]
      exact Heap.get?_push_of_some _ (k1 b u e)
    have lenL : (RL (out.map (kf h2))).length ≤ sizeLine := by rw [List.length_map, pL.length_eq]; exact sz (by omega)
    have J : Inv X pins σ (upd H s1.heap.objs.size (.lst (RL (out.map (kf h2))))) { s with heap := sortedHeap h2 s1.heap.objs.size out0 out.toArray, gens := s1.gens, drawn := s1.drawn, toks := s1.toks } :=
      I.call (ch := []) (Un.laid keep hz hn) (I.hok.laid keep hz ⟨lenL, out, c, vals, hcL⟩) (by rw [g1]; exact I.bare) (fun _ z => nomatch z)
    have fin : EP X pins σ Q (.ref s1.heap.objs.size) { s with heap := sortedHeap h2 s1.heap.objs.size out0 out.toArray, gens := s1.gens, drawn := s1.drawn, toks := s1.toks } := ⟨.ref _, _, J, rfl, q _ _ pL rk ((pL.map (·.2)).nodup_iff.mpr R.nd) hn⟩
    refine wpAny_pure ⟨_, rfl, ?_⟩
    obtain ⟨h1, g, d, t', os⟩ := s1
    cases o1
    exact fin
end
end Lp

namespace Lp
open PySem PySem.Spec PyProof.Rows L2
/-! ### a set comprehension whose items are tuples of ints -/
theorem addT_ok {Y : Cx} {pins : List (Addr × Obj)} {σ : L2.St} {H : Hp} {s : Shared} {E : Value → Shared → Prop} {D b : Addr} {L : List (Addr × List Int)} {k : List Int} {Q : Value → Shared → Prop} (I : Inv Y pins σ H s) (hD : H D = some (SetTO Y.prog Y.w D L)) (hb : SqT Y.K H b (IL k))
    (hL : ∀ p ∈ L, SqT Y.K H p.1 (IL p.2)) (few : L.length + 1 < 64) (hu : Y.A.units + 5 < cLine)
    (h : ∀ s' L', (k ∈ L.map (·.2) → L' = L) → (k ∉ L.map (·.2) → L'.Perm ((b, k) :: L)) → Inv Y pins σ (upd H D (SetTO Y.prog Y.w D L')) s' → Q .none s') :
    wpAny (model Y.prog Y.w) Y.A (call (.builtin "set.add") [.ref D, .ref b]) Q E s := by
  have R0 : SetT0 Y.prog Y.w s.heap D L := (I.hok D _ hD).1
  obtain ⟨es, ep, t, R⟩ := R0.full fun p hp => I.isT (hL p hp)
  obtain ⟨o, ho, hex, hd⟩ := R.ob
  have hx := I.isT hb
  refine wpAny_call_entry PySem.F.slot_set_add ⟨o, ho, hex.1⟩ PySem.F.entry_set_add ?_ (PySem.F.args_set_add_2 _ _)
  unfold Builtin.«set.add» Builtin.Frozenset.oneOther
  simp only [List.isEmpty_nil, bind_assoc]
  unfold Builtin.Frozenset.addrOf setAdd
  refine wpAny_bind (wpAny_pure ?_)
  try dsimp only
  refine wpAny_bind (wpAny_pure ?_)
  try dsimp only
  refine wpAny_bind (wpAny_holding (wpAny_bind (wpAny_pyHash_tuple (by show Y.A.units + 1 < cLine; omega) hx ?_)))
  refine add_at (s := { s with toks := s.toks + (k.length + 1) }) R hx (by show Y.A.units + 1 < cLine; omega) few fun _ h' L' es' ep' t' sb R' c1 c2 => ?_
  show wpAny _ _ (ret Value.none) _ _ _
  have there : ∃ u, h'.get? D = some u := by
    obtain ⟨o', ho', _⟩ := R'.ob
    exact ⟨o', ho'⟩
  exact wpAny_pure ⟨_, rfl, h _ L' c1 c2 (I.write (e := D) (t' := s.toks + (k.length + 1)) (by rw [hD]; trivial) (.inl rfl) (fun c u n e => (sb.2 c n).trans e) there (setTO_new R'.t0))⟩
/-- what must hold: D is the new set -/
def tScT (K : PySem.W.Frag) (P : Program) (w : World) (wi : TI) (g : TG) (te : TE) (vs : List Nat) : TE := fun σ H Q => wi σ H fun J H1 => ∀ D, H1 D = none → ∃ W : Nat → Nat → Hp → Prop, (∃ m, W 0 m (upd H1 D (SetTO P w D []))) ∧ ∀ i m H, W i m H →
  (J.stop i H ∧ Q (.ref D) H) ∨ (J.go i H ∧ ∃ Nx : Hp → Prop, (∀ H', Nx H' → ∃ m', m' < m ∧ W (i + 1) m' H') ∧ ∀ x H', J.yld i H x H' → g x (wipe σ vs) H' fun σ2 H2 => wipe σ2 vs = wipe σ vs ∧
    te σ2 H2 fun y H4 => ∃ (b : Addr) (k : List Int) (L : List (Addr × List Int)), y = .ref b ∧ SqT K H4 b (IL k) ∧ H4 D = some (SetTO P w D L) ∧ (∀ p ∈ L, SqT K H4 p.1 (IL p.2)) ∧ L.length + 1 < 64 ∧
      ∀ L', (k ∈ L.map (·.2) → L' = L) → (k ∉ L.map (·.2) → L'.Perm ((b, k) :: L)) → Nx (upd H4 D (SetTO P w D L')))
theorem pe_scT {X : Cx} {elt tg iter : Expr} {scope : Scope} {own : List (Str × Nat)} {pos : Pos} {wi : TI} {g : TG} {te : TE} (hc : X.calm = true) (hu : X.A.units + 5 < cLine) (hN : X.N.Nodup) (hi : PI X tg iter wi) (ok : BlkOk X.N X.env.scope scope own)
    (hg : ∀ (s : Shared) (H : Hp) (C : Addr) (cl : List (Str × Addr)) (fp : List Addr), PG (X.blk s H scope (compEnvC scope cl C X.env) fp) tg g)
    (he : ∀ (s : Shared) (H : Hp) (C : Addr) (cl : List (Str × Addr)) (fp : List Addr), PE (X.blk s H scope (compEnvC scope cl C X.env) fp) elt te) (hs : ∀ x, foldedSetIterable iter X.env x = pure x := by intro _; rfl) :
    PE X (.SetComp elt [⟨tg, iter, [], 0⟩] scope pos) (tScT X.K X.prog X.w wi g te (own.map (·.2))) := by
  constructor
  intro pins s σ H Q I h
  rw [PpSet.eval_SetComp]
  show wpAny _ _ (comprehension (.SetComp elt [⟨tg, iter, [], 0⟩] scope pos) scope X.env (firstIterPos [⟨tg, iter, [], 0⟩] pos) (newSet (.type "set")) false (eval iter X.env)) _ _ s
  have captured : ∀ y ∈ scope.names, y.2 = .free → ∃ c, X.env.cells.lookup y.1 = some c := fun y hy e => (ok.free y hy e).elim (fun z => I.ok.has _ (.inl z)) (fun z => I.ok.has _ (.inr z))
  refine wpAny_comprehension_free (use := none) rfl hs (closure_ok captured) ok.kind (fun y hy e => by rw [ok.uniq y hy, e]) (thn (hi.run pins s σ H _ I h) fun xv s1 hx => thn hx fun itv s2 walked => ?_)
  obtain ⟨it, fp, tn, J, H2, rfl, I2, T, at0, apart, want⟩ := walked
  refine PpSet.newSet_ok (newEnv_comp ?_)
  generalize eD : s2.heap.objs.size = D
  have noD : H2 D = none := I2.hok.fresh (Nat.le_of_eq eD)
  obtain ⟨W, ⟨m0, w0⟩, turn⟩ := want D noD
  generalize e3 : ({ s2 with heap := s2.heap.push { cls := .type "set", dict := none, data := .set #[] 0 (.fresh 0 0 (!X.w.params.followText "set-order")) } } : Shared) = s3
  have heap3 : s3.heap = s2.heap.push { cls := .type "set", dict := none, data := .set #[] 0 (.fresh 0 0 (!X.w.params.followText "set-order")) } := by rw [← e3]
  have I3 : Inv X pins σ (upd H2 D (SetTO X.prog X.w D [])) s3 := by
    rw [← e3]
    refine I2.laid (t' := s2.toks) (fun _ _ e => Heap.get?_push_of_some _ e) (Nat.le_of_eq eD) (setTO_new (SetTR.t0 (setTR_fresh ?_)))
    rw [← eD]; exact Heap.get?_push_size _ rfl
  have apart3 : ∀ b ∈ fp, FpOk X pins (upd H2 D (SetTO X.prog X.w D [])) b ∧ b < s3.heap.objs.size := by
    intro b hb
    obtain ⟨o, e, _⟩ := T.obj _ _ at0 b hb
    have lt := Heap.lt_size e
    refine ⟨⟨?_, (apart b hb).2⟩, by rw [heap3, Heap.size_push]; exact Nat.lt_succ_of_lt lt⟩
    rw [upd_ne (fun z => by rw [z, ← eD] at lt; exact Nat.lt_irrefl _ lt)]
    exact (apart b hb).1
  have at3 : tn 0 s3.heap := T.keep _ _ _ at0 fun b _ o e => by rw [heap3]; exact Heap.get?_push_of_some _ e
  have I4 := block_start I3 ok hN apart3
  have pg := hg s3 (upd H2 D (SetTO X.prog X.w D [])) s3.heap.objs.size (cellsFrom (s3.heap.objs.size + 1) scope.names (cloFrom X.env.cells scope.names [])) fp
  have pe := he s3 (upd H2 D (SetTO X.prog X.w D [])) s3.heap.objs.size (cellsFrom (s3.heap.objs.size + 1) scope.names (cloFrom X.env.cells scope.names [])) fp
  show codeAny _ _ (.compStart (.SetComp elt [⟨tg, iter, [], 0⟩] scope pos) 0 (.ref it) (.ref D) (compEnvC scope (cellsFrom (s3.heap.objs.size + 1) scope.names (cloFrom X.env.cells scope.names [])) s3.heap.objs.size X.env)) (compPost (model X.prog X.w) X.A X.xe none (EP X pins σ Q) (.ref D) s3.heap.objs.size) { s3 with heap := pushCells (s3.heap.push { cls := .type "dict", data := .dict #[] }) scope.names }
  have none3 : ∀ b ∈ fp, (upd H2 D (SetTO X.prog X.w D [])) b = none := fun b hb => (apart3 b hb).1.1
  generalize eC : compEnvC scope (cellsFrom (s3.heap.objs.size + 1) scope.names (cloFrom X.env.cells scope.names [])) s3.heap.objs.size X.env = ce at I4 pg pe ⊢
  have loc : ce.locals = s3.heap.objs.size := by subst eC; rfl
  generalize eH3 : upd H2 D (SetTO X.prog X.w D []) = H3 at I3 I4 pg pe w0 none3 apart3
  generalize e4 : ({ s3 with heap := pushCells (s3.heap.push { cls := .type "dict", data := .dict #[] }) scope.names } : Shared) = s4 at I4 ⊢
  have at4 : tn 0 s4.heap := T.keep _ _ _ at3 fun b _ o e => by rw [← e4]; exact pushCells_keeps _ _ _ _ (Heap.get?_push_of_some _ e)
  have own_fp : ∀ {σ' : L2.St} {H' : Hp} {s' : Shared}, Inv (X.blk s3 H3 scope ce fp) [] σ' H' s' → (∀ b ∈ fp, H' b = none) → ∀ b ∈ fp, FpOk (X.blk s3 H3 scope ce fp) [] H' b := by
    intro σ' H' s' I' hn b hb
    refine ⟨hn b hb, (I'.ok.exf b hb).1, I'.ok.exfs b hb, .inl hb, fun x c e => (I'.ok.exf b hb).2 x c e, fun p hp => ?_⟩
    exact nomatch (show p ∈ ([] : List (Addr × Obj)) from hp)
  have loop : codeAny (model X.prog X.w) X.A (.compLoop (.SetComp elt [⟨tg, iter, [], 0⟩] scope pos) 0 (.ref it) (.ref D) ce) (compPost (model X.prog X.w) X.A X.xe none (EP X pins σ Q) (.ref D) s3.heap.objs.size) s4 := by
    refine PpSet.compLoopS_any (fun n s' => ∃ i H', Inv (X.blk s3 H3 scope ce fp) [] (wipe σ (own.map (·.2))) H' s' ∧ tn i s'.heap ∧ (∀ b ∈ fp, H' b = none) ∧ W i n H') ?_ m0 ⟨0, H3, I4, at4, none3, w0⟩
    rintro n s5 ⟨i, H5, I5, at5, none5, w5⟩
    rcases turn i n H5 w5 with ⟨stop, done⟩ | ⟨go, Nx, next, step⟩
    · refine thnF (T.done (X.blk s3 H3 scope ce fp) rfl rfl rfl hc i [] s5 _ H5 (fun _ _ => False) I5 (own_fp I5 none5) at5 stop) fun r s6 ends => ?_
      obtain ⟨rfl, I6⟩ := ends
      have I7 : Inv X pins σ H5 s6 := I3.call' (ch := fp) I6.os I6.base I6.hok I6.bare fun b hb => by
        obtain ⟨_, a1, _, a3, a4, a5⟩ := (apart3 b hb).1
        exact ⟨a3, a1, a4, a5⟩
      have noC : H5 s3.heap.objs.size = none := by rw [← loc]; exact I6.free
      obtain ⟨m, names, _⟩ := I6.loc
      have names' : s6.heap.Ns s3.heap.objs.size m := by rw [← loc]; exact names
      obtain ⟨f0, f1, f2, f3, f4, f5⟩ := I3.fpOk (Nat.le_refl _) noC
      refine ⟨m, names', fun h'' sb => ?_⟩
      exact ⟨.ref D, H5, I7.turned (t' := s6.toks) (fun b o n e => (sb.2 b n).trans e) f0 f1 f3 f4 f5, rfl, done⟩
    · refine thnF (T.item (X.blk s3 H3 scope ce fp) rfl rfl rfl hc i [] s5 _ H5 (fun _ _ => False) I5 (own_fp I5 none5) at5 go) fun r s6 got => ?_
      obtain ⟨u, rfl, h6⟩ := got
      refine thnF h6 fun _ s7 got => ?_
      obtain ⟨x, H7, I7, rx, y7, at7, none7⟩ := got
      refine thnF (pg.run _ s7 _ H7 x u _ (I7.pinned (own_fp I7 none7) (T.obj _ _ at7)) rx (step x H7 y7)) fun _ s8 got => ?_
      obtain ⟨σ8, H8, I8, same8, q8⟩ := got
      have turned : ∀ {s' : Shared} {H' : Hp}, Inv (X.blk s3 H3 scope ce fp) ([] ++ pinsAt fp s7.heap) σ8 H' s' → Nx H' → ∃ m, m < n ∧ ∃ i H', Inv (X.blk s3 H3 scope ce fp) [] (wipe σ (own.map (·.2))) H' s' ∧ tn i s'.heap ∧ (∀ b ∈ fp, H' b = none) ∧ W i m H' := by
        intro s' H' I' nx
        obtain ⟨m', less, w'⟩ := next H' nx
        have held : ∀ b ∈ fp, ∀ o, s7.heap.get? b = some o → s'.heap.get? b = some o ∧ H' b = none := by
          intro b hb o e
          obtain ⟨z1, z2, _⟩ := I'.pin (b, o) (List.mem_append_right _ (List.mem_append_right _ (mem_pinsAt hb e)))
          exact ⟨z1, z2⟩
        refine ⟨m', less, i + 1, H', (I'.unpinned (pins := [])).weak (by rw [← same8, wipe_length]) (fun j v e => ?_), T.keep _ _ _ at7 fun b hb o e => (held b hb o e).1, fun b hb => ?_, w'⟩
        · rw [← same8] at e; exact (wipe_some e).1
        · obtain ⟨o, e, _⟩ := T.obj _ _ at7 b hb
          exact (held b hb o e).2
      refine wpAny_pure ?_
      rw [if_pos rfl]
      refine thnF (pe.run _ s8 σ8 H8 _ I8 q8) fun z s9 got => ?_
      obtain ⟨yv, H9, I9, ry, b, k, L, rfl, hb, hD9, hL9, few, nx⟩ := got
      cases ry
      exact addT_ok (Y := X.blk s3 H3 scope ce fp) I9 hD9 hb hL9 few hu fun s10 L' c1 c2 I10 => turned I10 (nx L' c1 c2)
  exact PpSet.codeAny_compStart_set loop (T.self X.A 0 _ _ _ at4 loop)
end Lp

namespace Lp
open PySem PySem.Spec PyProof.Rows L2
/-! ### min of a tuple of ints -/
section
variable {prog : Program} {w : World} {A : Around} {E : Value → Shared → Prop} {s : Shared} {l : Addr}
theorem min_tupI {xs : Array (Int × Tok)} {Q : Value → Shared → Prop} (calm : A.handled = none) (ht : s.heap.IsTuple l (intItems xs)) (ne : 0 < xs.size)
    (q : ∀ v h' tk, (intItems xs)[argBest (fun i j => decide (numAt xs i < numAt xs j)) (xs.size - 1)]? = some v → (∀ b o, s.heap.get? b = some o → h'.get? b = some o) → Q v { s with heap := h', toks := tk }) :
    wpAny (model prog w) A (call (.builtin "min") [.ref l]) Q E s := by
  have lt : l < s.heap.objs.size := by obtain ⟨_, e, _⟩ := ht; exact Heap.lt_size e
  refine call_min_walk (wpAny_pyIter_tuple ht ?_)
  refine ⟨_, [_, l], [_], _, _, _, _, rfl, Walks.tuple (A := A.in1) calm _ l (Nat.ne_of_lt lt) (intItems xs), ⟨⟨_, Heap.get?_push_size _ rfl, rfl, rfl⟩, ht.push _⟩, fun c hc => ?_, by simpa [intItems] using ne, CmpOf.ints_lt (numAt xs) (fun _ _ => intItems_at), fun v h' tk hP hk => ?_⟩
  · have e : c = s.heap.objs.size ∨ c = l := by simpa using hc
    have z : (s.heap.push { cls := .type "tuple_iterator", data := .fields #[.ref l, .int 0 0] }).objs.size = s.heap.objs.size + 1 := Heap.size_push ..
    show c < _
    rw [z]
    rcases e with rfl | rfl
    · exact Nat.lt_succ_self _
    · exact Nat.lt_succ_of_lt lt
  · refine q v h' tk (by simpa [intItems] using hP) fun c o e => hk c o (fun hm => ?_) (Heap.get?_push_of_some _ e)
    have ec : c = s.heap.objs.size := by simpa using hm
    rw [ec] at e
    exact Nat.lt_irrefl _ (Heap.lt_size e)
theorem min_tupN {its : List Value} {ns : List Int} {Q : Value → Shared → Prop} (calm : A.handled = none) (ht : s.heap.IsTuple l its.toArray) (hi : IntsAre its ns) (ne : 0 < ns.length)
    (q : ∀ h' tk M t', (∀ b o, s.heap.get? b = some o → h'.get? b = some o) → M ∈ ns → (∀ a, a ∈ ns → M ≤ a) → Q (.int M t') { s with heap := h', toks := tk }) : wpAny (model prog w) A (call (.builtin "min") [.ref l]) Q E s := by
  obtain ⟨xs, e⟩ := hi.allInts.items
  have en : numsOf (intItems xs).toList = ns := e ▸ hi.numsOf
  rw [nums_intItems] at en
  subst en
  rw [e] at ht
  refine min_tupI calm ht (by simpa using ne) fun v h' tk hv hk => ?_
  obtain ⟨t, rfl⟩ := intItems_at hv
  have best := (argBest_lt (numAt xs) (xs.size - 1)).2
  have size : 0 < xs.size := by simpa using ne
  have len : (xs.toList.map (·.1)).length = xs.size := by rw [List.length_map, Array.length_toList]
  have le := (argBest_lt (numAt xs) (xs.size - 1)).1
  refine q h' tk _ t hk (by rw [numAt_eq]; exact PySem.getD_mem (by rw [len]; omega)) fun a ha => ?_
  obtain ⟨j, hj, rfl⟩ := mem_getD ha
  rw [len] at hj
  rw [← numAt_eq]
  exact best j (by omega)
end
section
variable {X : Cx}
def rMinT (K : PySem.W.Frag) : List V → Hp → VK → Prop := fun vs H Q => ∃ (a : Addr) (ns : List Int), vs = [V.ref a] ∧ SqT K H a (IL ns) ∧ 0 < ns.length ∧ ∀ m, m ∈ ns → (∀ y, y ∈ ns → m ≤ y) → Q (.int m) H
theorem cr_minT (hc : X.calm = true) : CallR X (.builtin "min") (rMinT X.K) := by
  intro pins s σ H vs us Q I r h
  obtain ⟨a, ns, rfl, hs, ne, q⟩ := h
  obtain ⟨its, rv, ht, _⟩ := I.tuple hs
  rw [Vals.ref1 r]
  exact min_tupN (I.ok.hd hc) ht rv.ints ne fun h' tk m t' hk h1 h2 => ⟨.int m, H, I.kept hk, ⟨t', rfl⟩, q m h1 h2⟩
end
end Lp

namespace Lp
open PySem PySem.Spec PyProof.Rows L2
abbrev Φ1 := List PyData → (R → Prop) → Prop
/-! ### len, list, tuple, abs, int -/
def φLen  (ds : List PyData) (Q : R → Prop) : Prop := match ds with
  | [d] => match PyData.its d with
    | some es => Q (.sh (.int es.length))
    | none => False
  | _ => False
abbrev rLen (K : PySem.W.Frag) : List V → Hp → VK → Prop := fun xs H Q => ∃ p ys, xs = [.ref p] ∧ (SqL K H p ys ∨ SqT K H p ys) ∧ Q (.int ys.length) H
theorem rc_len {K : PySem.W.Frag} : RCK (rLen K) φLen := by
  constructor
  · intro x A B hAB q
    unfold φLen at q ⊢
    split at q
    · split at q
      · exact hAB _ q
      · exact q.elim
    · exact q.elim
  · intro L H xs ds Q s hx q
    unfold φLen at q
    split at q
    · split at q
      · rename_i es he
        cases hx with
        | cons h1 h2 =>
          cases h2
          obtain ⟨a, ys, rfl, k1, k2⟩ := its_seq (K := K) h1 s he
          exact ⟨a, ys, rfl, k1, by rw [k2.len]; exact q _ L H (Ext.refl _ _ _) s (.int _)⟩
      · exact q.elim
    · exact q.elim
def φList  (ds : List PyData) (Q : R → Prop) : Prop := match ds with
  | [d] => match PyData.its d with
    | some es => Q (.nw es)
    | none => False
  | _ => False
abbrev rList (K : PySem.W.Frag) : List V → Hp → VK → Prop := fun xs H Q => ∃ p ys, xs = [.ref p] ∧ (SqL K H p ys ∨ SqT K H p ys) ∧ ∀ l, H l = none → Q (.ref l) (upd H l (.lst ys))
theorem rc_list {K : PySem.W.Frag} : RCK (rList K) φList := by
  constructor
  · intro x A B hAB q
    unfold φList at q ⊢
    split at q
    · split at q
      · exact hAB _ q
      · exact q.elim
    · exact q.elim
  · intro L H xs ds Q s hx q
    unfold φList at q
    split at q
    · split at q
      · rename_i es he
        cases hx with
        | cons h1 h2 =>
          cases h2
          obtain ⟨a, ys, rfl, k1, k2⟩ := its_seq (K := K) h1 s he
          exact ⟨a, ys, rfl, k1, fun p np => q _ L _ (Ext.own np) (same_own s (s.free np)) ⟨p, _, rfl, np, s.free np, upd_same, k2⟩⟩
      · exact q.elim
    · exact q.elim
def φTuple  (ds : List PyData) (Q : R → Prop) : Prop := match ds with
  | [d] => match PyData.its d with
    | some es => Q (.sh (.tuple es))
    | none => False
  | _ => False
theorem rc_tuple {K : PySem.W.Frag} : RCK (rTuple K) φTuple := by
  constructor
  · intro x A B hAB q
    unfold φTuple at q ⊢
    split at q
    · split at q
      · exact hAB _ q
      · exact q.elim
    · exact q.elim
  · intro L H xs ds Q s hx q
    unfold φTuple at q
    split at q
    · split at q
      · rename_i d _ es he
        cases hx with
        | cons h1 h2 =>
          cases h2
          cases d with
          | list es' =>
            cases he
            obtain ⟨a, ys, rfl, k1, k2⟩ := h1.lst s
            refine ⟨a, ys, rfl, .inl ⟨SqL.of k1, fun p o np no => ?_⟩⟩
            have e1 : Ext none L H (upd L p (.frz o (.tup ys))) (upd H p (.frz o (.tup ys))) := Ext.new s np
            exact q _ _ _ e1 (same_both s) (.tup ⟨o, no, upd_same⟩ (k2.to e1.ll))
          | tuple es' =>
            cases he
            obtain ⟨a, ys, rfl, k1, k2⟩ := h1.tup
            exact ⟨a, ys, rfl, .inr ⟨(k1.to s).seq, q _ L H (Ext.refl _ _ _) s (.tup k1 k2)⟩⟩
          | _ => cases he
      · exact q.elim
    · exact q.elim
def φAbs  (ds : List PyData) (Q : R → Prop) : Prop := match ds with
  | [.int i] => Q (.sh (.int (if i < 0 then -i else i)))
  | _ => False
theorem rc_abs : RCK (fun xs H Q => ∃ i, xs = [.int i] ∧ Q (.int (if i < 0 then -i else i)) H) φAbs := by
  constructor
  · intro x A B hAB q
    unfold φAbs at q ⊢
    split at q
    · exact hAB _ q
    · exact q.elim
  · intro L H xs ds Q s hx q
    unfold φAbs at q
    split at q
    · cases hx with
      | cons h1 h2 =>
        cases h2
        cases h1.int
        exact ⟨_, rfl, q _ L H (Ext.refl _ _ _) s (.int _)⟩
    · exact q.elim
def φInt  (ds : List PyData) (Q : R → Prop) : Prop := match ds with
  | [.int i] => Q (.sh (.int i))
  | [.bool b] => Q (.sh (.int (if b then 1 else 0)))
  | _ => False
theorem rc_int : RCK (fun xs H Q => (∃ i, xs = [.int i] ∧ Q (.int i) H) ∨ ∃ k, xs = [.bl k] ∧ Q (.int (if k then 1 else 0)) H) φInt := by
  constructor
  · intro x A B hAB q
    unfold φInt at q ⊢
    split at q
    · exact hAB _ q
    · exact hAB _ q
    · exact q.elim
  · intro L H xs ds Q s hx q
    unfold φInt at q
    split at q
    · cases hx with
      | cons h1 h2 =>
        cases h2
        cases h1.int
        exact .inl ⟨_, rfl, q _ L H (Ext.refl _ _ _) s (.int _)⟩
    · cases hx with
      | cons h1 h2 =>
        cases h2
        cases h1.bl
        exact .inr ⟨_, rfl, q _ L H (Ext.refl _ _ _) s (.int _)⟩
    · exact q.elim
/-! ### min, max, sum, all, any -/
def IsMin (ns : List Int) (m : Int) : Prop := m ∈ ns ∧ ∀ y ∈ ns, m ≤ y
def φMin  (ds : List PyData) (Q : R → Prop) : Prop := match ds with
  | [.int i, .int j] => Q (.sh (.int (if j < i then j else i)))
  | [d] => match (PyData.its d).bind intsD with
    | some ns => 0 < ns.length ∧ ∀ m, IsMin ns m → Q (.sh (.int m))
    | none => False
  | _ => False
abbrev rMinA (K : PySem.W.Frag) : List V → Hp → VK → Prop := fun xs H Q => (∃ i j, xs = [.int i, .int j] ∧ Q (.int (if j < i then j else i)) H) ∨ (rMin K xs H Q ∨ rMinT K xs H Q)
theorem cr_minA {X : Cx} (hc : X.calm = true) : CallR X (.builtin "min") (rMinA X.K) := cr_or (call_min2 hc) (cr_or (cr_min hc) (cr_minT hc))
theorem rc_min {K : PySem.W.Frag} : RCK (rMinA K) φMin := by
  constructor
  · intro x A B hAB q
    unfold φMin at q ⊢
    split at q
    · exact hAB _ q
    · split at q
      · exact ⟨q.1, fun m hm => hAB _ (q.2 m hm)⟩
      · exact q.elim
    · exact q.elim
  · intro L H xs ds Q s hx q
    unfold φMin at q
    split at q
    · cases hx with
      | cons h1 h2 =>
        cases h2 with
        | cons h2 h3 =>
          cases h3
          cases h1.int
          cases h2.int
          exact .inl ⟨_, _, rfl, q _ L H (Ext.refl _ _ _) s (.int _)⟩
    · rename_i d
      split at q
      · rename_i ns hn
        cases hx with
        | cons h1 h2 =>
          cases h2
          cases d with
          | list es =>
            obtain ⟨a, ys, rfl, k1, k2⟩ := h1.lst s
            rw [intsD_is (show intsD es = some ns from hn)] at k2
            cases ints_dvs k2
            exact .inr (.inl ⟨a, ns, rfl, SqL.of k1, q.1, fun m h1 h2 => q.2 m ⟨h1, h2⟩ _ L H (Ext.refl _ _ _) s (.int _)⟩)
          | tuple es =>
            obtain ⟨a, ys, rfl, k1, k2⟩ := h1.tup
            rw [intsD_is (show intsD es = some ns from hn)] at k2
            cases ints_dvs k2
            exact .inr (.inr ⟨a, ns, rfl, (k1.to s).seq, q.1, fun m h1 h2 => q.2 m ⟨h1, h2⟩ _ L H (Ext.refl _ _ _) s (.int _)⟩)
          | _ => cases hn
      · exact q.elim
    · exact q.elim
def φMax  (ds : List PyData) (Q : R → Prop) : Prop := match ds with
  | [.int i, .int j] => Q (.sh (.int (if j > i then j else i)))
  | _ => False
theorem rc_max : RCK (fun xs H Q => ∃ i j, xs = [.int i, .int j] ∧ Q (.int (if j > i then j else i)) H) φMax := by
  constructor
  · intro x A B hAB q
    unfold φMax at q ⊢
    split at q
    · exact hAB _ q
    · exact q.elim
  · intro L H xs ds Q s hx q
    unfold φMax at q
    split at q
    · cases hx with
      | cons h1 h2 =>
        cases h2 with
        | cons h2 h3 =>
          cases h3
          cases h1.int
          cases h2.int
          exact ⟨_, _, rfl, q _ L H (Ext.refl _ _ _) s (.int _)⟩
    · exact q.elim
def φSum  (ds : List PyData) (Q : R → Prop) : Prop := match ds with
  | [.list es] => match intsD es with
    | some ns => Q (.sh (.int ns.sum))
    | none => False
  | _ => False
theorem rc_sum {K : PySem.W.Frag} : RCK (rSum K) φSum := by
  constructor
  · intro x A B hAB q
    unfold φSum at q ⊢
    split at q
    · split at q
      · exact hAB _ q
      · exact q.elim
    · exact q.elim
  · intro L H xs ds Q s hx q
    unfold φSum at q
    split at q
    · split at q
      · rename_i ns hn
        cases hx with
        | cons h1 h2 =>
          cases h2
          obtain ⟨a, ys, rfl, k1, k2⟩ := h1.lst s
          rw [intsD_is hn] at k2
          cases ints_dvs k2
          exact ⟨a, ns, rfl, SqL.of k1, q _ L H (Ext.refl _ _ _) s (.int _)⟩
      · exact q.elim
    · exact q.elim
def φAll (any : Bool)  (ds : List PyData) (Q : R → Prop) : Prop := match ds with
  | [.list es] => match boolsD es with
    | some bs => Q (.sh (.bool (if any then bs.any id else bs.all id)))
    | none => False
  | _ => False
theorem rc_all {K : PySem.W.Frag} : RCK (rAll K) (φAll false) := by
  constructor
  · intro x A B hAB q
    unfold φAll at q ⊢
    split at q
    · split at q
      · exact hAB _ q
      · exact q.elim
    · exact q.elim
  · intro L H xs ds Q s hx q
    unfold φAll at q
    split at q
    · split at q
      · rename_i ns hn
        cases hx with
        | cons h1 h2 =>
          cases h2
          obtain ⟨a, ys, rfl, k1, k2⟩ := h1.lst s
          rw [boolsD_is hn] at k2
          cases bools_dvs k2
          exact ⟨a, ns, rfl, SqL.of k1, q _ L H (Ext.refl _ _ _) s (.bl _)⟩
      · exact q.elim
    · exact q.elim
theorem rc_any {K : PySem.W.Frag} : RCK (rAny K) (φAll true) := by
  constructor
  · intro x A B hAB q
    unfold φAll at q ⊢
    split at q
    · split at q
      · exact hAB _ q
      · exact q.elim
    · exact q.elim
  · intro L H xs ds Q s hx q
    unfold φAll at q
    split at q
    · split at q
      · rename_i ns hn
        cases hx with
        | cons h1 h2 =>
          cases h2
          obtain ⟨a, ys, rfl, k1, k2⟩ := h1.lst s
          rw [boolsD_is hn] at k2
          cases bools_dvs k2
          exact ⟨a, ns, rfl, SqL.of k1, q _ L H (Ext.refl _ _ _) s (.bl _)⟩
      · exact q.elim
    · exact q.elim
/-! ### sorted -/
/-- sorted(xs): ints, or tuples of ints -/
def φSorted  (ds : List PyData) (Q : R → Prop) : Prop := match ds with
  | [.list es] => match intsD es, tupsD es with
    | some ns, _ => ∀ ms : List Int, ms.Perm ns → ms.Pairwise (· ≤ ·) → Q (.nw (dI ms))
    | none, some nss => ∀ mss : List (List Int), mss.Perm nss → mss.Pairwise (fun x y => HT.lexLt y x = false) → Q (.nw (dT mss))
    | _, _ => False
  | _ => False
abbrev rSortA (K : PySem.W.Frag) : List V → Hp → VK → Prop := fun xs H Q => rSortedI K xs H Q ∨ rSortL K xs H Q
theorem cr_sortA {X : Cx} : CallR X (.builtin "sorted") (rSortA X.K) := cr_or cr_sortedI cr_sortL
theorem Ranked.asc {P : List (Addr × List Int)} (h : Ranked P) : (P.map (·.2)).Pairwise (fun x y => HT.lexLt y x = false) := List.pairwise_map.mpr h
/-- tuples of ints at addresses -/
theorem tups_refs {L : Hp} : ∀ {vs : List V} {nss : List (List Int)}, DVs L vs (dT nss) → ∃ P : List (Addr × List Int), vs = RL P ∧ P.map (·.2) = nss ∧ ∀ p ∈ P, Sol L p.1 (IL p.2)
  | _, [], .nil => ⟨[], rfl, rfl, fun _ h => nomatch h⟩
  | _, ns :: nss, .cons (.tup h1 h2) r => by
    obtain ⟨P, e1, e2, h⟩ := tups_refs r
    cases ints_dvs h2
    refine ⟨(_, ns) :: P, by rw [e1]; rfl, by rw [← e2]; rfl, fun p hp => ?_⟩
    rcases List.mem_cons.mp hp with rfl | hp
    · exact h1
    · exact h p hp
theorem refs_tups {L : Hp} : ∀ (P : List (Addr × List Int)), (∀ p ∈ P, Sol L p.1 (IL p.2)) → DVs L (RL P) (dT (P.map (·.2)))
  | [], _ => .nil
  | p :: P, h => .cons (.tup (h p List.mem_cons_self) (dvs_ints _)) (refs_tups P fun q hq => h q (List.mem_cons_of_mem _ hq))
theorem rc_sorted {K : PySem.W.Frag} : RCK (rSortA K) φSorted := by
  constructor
  · intro x A B hAB q
    unfold φSorted at q ⊢
    split at q
    · split at q
      · exact fun ms h1 h2 => hAB _ (q ms h1 h2)
      · exact fun ms h1 h2 => hAB _ (q ms h1 h2)
      · exact q.elim
    · exact q.elim
  · intro L H xs ds Q s hx q
    unfold φSorted at q
    split at q
    · cases hx with
      | cons h1 h2 =>
        cases h2
        obtain ⟨a, ys, rfl, k1, k2⟩ := h1.lst s
        split at q
        · rename_i ns hn
          rw [intsD_is hn] at k2
          cases ints_dvs k2
          exact .inl ⟨a, ns, rfl, SqL.of k1, fun ms p h1 h2 np => q ms h1 h2 _ L _ (Ext.own np) (same_own s (s.free np)) ⟨p, _, rfl, np, s.free np, upd_same, dvs_ints ms⟩⟩
        · rename_i nss _ hn
          obtain ⟨e, ne⟩ := tupsD_is hn
          rw [e] at k2
          obtain ⟨P, e1, e2, hP⟩ := tups_refs k2
          subst e1
          refine .inr ⟨a, P, rfl, SqL.of k1, fun p hp => ⟨((hP p hp).to s).seq, ne _ (by rw [← e2]; exact List.mem_map_of_mem hp)⟩, fun P' p pm rk np => ?_⟩
          refine q (P'.map (·.2)) (by rw [← e2]; exact pm.map _) rk.asc _ L _ (Ext.own np) (same_own s (s.free np)) ⟨p, _, rfl, np, s.free np, upd_same, refs_tups P' fun p hp => hP p (pm.mem_iff.mp hp)⟩
        · exact q.elim
    · exact q.elim
section
variable {w : World} {K : PySem.W.Frag} {te : TE} {f : DTE}
/-- RS: the items of nss, each once, ascending -/
def Asc (nss RS : List (List Int)) : Prop := RS.Nodup ∧ RS.Pairwise (fun x y => HT.lexLt y x = false) ∧ ∀ k, k ∈ RS ↔ k ∈ nss
/-- sorted(set(xs)), xs a list of tuples of ints -/
def dSortSet (f : DTE)  (ε : Env) (Q : R → Env → Prop) : Prop := f ε fun r ε1 => match r.dat with
  | some (.list ds) => match tupsD ds with
    | some nss => nss.length < 64 ∧ ∀ RS, Asc nss RS → Q (.nw (dT RS)) ε1
    | none => False
  | _ => False
theorem se_sortSet {P : Program} (hf : SE w te f) : SE w (tCB (rSortS K P w) (tCons (tCB (rSetOfT K P w) (tCons te tNil)) tNil)) (dSortSet f) := by
  constructor
  · intro ε A B h q
    refine hf.mono _ _ _ (fun r ε1 q => ?_) q
    split at q
    · split at q
      · exact ⟨q.1, fun RS hR => h _ _ (q.2 RS hR)⟩
      · exact q.elim
    · exact q.elim
  · intro Z O σ ε L H Q X q
    refine hf.run Z O σ ε L H _ X (hf.mono _ _ _ (fun r ε1 q => ?_) q)
    intro v L1 H1 X1 e1 r1
    split at q
    · rename_i ds hd
      split at q
      · rename_i nss hn
        obtain ⟨a, ys, rfl, k1, k2⟩ := (r1.vl hd).lst X1.lh
        obtain ⟨e, ne⟩ := tupsD_is hn
        rw [e] at k2
        obtain ⟨P', e1', e2, hP⟩ := tups_refs k2
        subst e1'
        refine ⟨a, P', rfl, SqL.of k1, fun p hp => ((hP p hp).to X1.lh).seq, by rw [← List.length_map (f := (·.2)), e2]; exact q.1, fun b M nb h1 h2 => ?_⟩
        have s2 : Same L1 (upd H1 b (SetTO P w b M)) := same_own X1.lh (X1.lh.free nb)
        refine ⟨b, M, rfl, upd_same, fun p hp => ⟨((hP p (h1 p hp)).to s2).seq, ne _ (by rw [← e2]; exact List.mem_map_of_mem (h1 p hp))⟩, fun M' c pm rk nd nc => ?_⟩
        have eb : Ext none L1 H1 L1 (upd H1 b (SetTO P w b M)) := Ext.own nb
        have ec : Ext none L1 (upd H1 b (SetTO P w b M)) L1 (upd (upd H1 b (SetTO P w b M)) c (.lst (RL M'))) := Ext.own nc
        have X2 := X1.step eb s2
        have nc1 : H1 c = none := eb.free nc
        have X3 := X2.step ec (same_own s2 (X1.lh.free nc1))
        refine q.2 (M'.map (·.2)) ⟨nd, rk.asc, fun k => ?_⟩ _ L1 _ X3 ((e1.trans eb.any).trans ec.any) (VR.back (VR0.vr (r := .nw (dT (M'.map (·.2)))) ⟨c, _, rfl, nc, X1.lh.free nc1, upd_same, refs_tups M' fun p hp => hP p (h1 p (pm.mem_iff.mp hp))⟩ X2) (e1.trans eb.any))
        rw [(pm.map (·.2)).mem_iff, ← e2]
        constructor
        · intro hk
          obtain ⟨p, hp, rfl⟩ := List.mem_map.mp hk
          exact List.mem_map_of_mem (h1 p hp)
        · intro hk
          obtain ⟨p, hp, rfl⟩ := List.mem_map.mp hk
          exact h2 p hp
      · exact q.elim
    · exact q.elim
/-! ### list(range(..)) -/
def dListRg (f : DTE)  (ε : Env) (Q : R → Env → Prop) : Prop := f ε fun r ε1 => match r.dat with
  | some (.int n) => n ≤ 16777216 ∧ -(2 ^ 62) ≤ n ∧ Q (.nw (rgD 0 n.toNat)) ε1
  | _ => False
theorem dvs_rg {H : Hp} (n : Int) : DVs H (rgV 0 n) (rgD 0 n.toNat) := by
  unfold rgV rgD
  rw [Int.sub_zero]
  generalize List.range n.toNat = l
  induction l with
  | nil => exact .nil
  | cons x r ih => exact .cons (.int _) ih
theorem se_listRg (hf : SE w te f) : SE w (tLstRg (tRg1 te)) (dListRg f) := by
  constructor
  · intro ε A B h q
    refine hf.mono _ _ _ (fun r ε1 q => ?_) q
    split at q
    · exact ⟨q.1, q.2.1, h _ _ q.2.2⟩
    · exact q.elim
  · intro Z O σ ε L H Q X q
    refine hf.run Z O σ ε L H _ X (hf.mono _ _ _ (fun r ε1 q => ?_) q)
    intro v L1 H1 X1 e1 r1
    split at q
    · rename_i n hd
      refine ⟨n, (r1.vl hd).int, ⟨by decide, by decide, q.2.1, by omega, by omega⟩, fun p np => ?_⟩
      have ep : Ext none L1 H1 L1 (upd H1 p (.lst (rgV 0 n))) := Ext.own np
      exact q.2.2 _ L1 _ (X1.step ep (same_own X1.lh (X1.lh.free np))) (e1.trans ep.any) (VR.back (VR0.vr (r := .nw (rgD 0 n.toNat)) ⟨p, _, rfl, np, X1.lh.free np, upd_same, dvs_rg n⟩ X1) e1)
    · exact q.elim
end
/-! ### xs.index(x) -/
section
variable {X : Cx}
def rIndexT (K : PySem.W.Frag) : V → List V → Hp → VK → Prop := fun x xs H Q => ∃ (a : Addr) (ys : List V) (y : V) (j : Nat) (z : V), x = V.ref a ∧ xs = [y] ∧ SqT K H a ys ∧ flatV y = true ∧ ys.all flatV = true ∧ ys[j]? = some z ∧ eqV z y = true ∧
  (∀ (m : Nat) (z' : V), m < j → ys[m]? = some z' → eqV z' y = false) ∧ Q (.int (j : Nat)) H
theorem mt_indexT : MtR X "tuple.index" (rIndexT X.K) := by
  rintro pins s σ H x xs v us Q J rx rxs ⟨a, ys, y, j, z, rfl, rfl, at_a, fy, fys, hz, hit, miss, q⟩
  cases rx
  obtain ⟨uy, rfl, ry⟩ := vals1 rxs
  obtain ⟨its, rv, pl, _⟩ := J.tuple at_a
  obtain ⟨⟨cls, dd, dt, sl⟩, look, isT, n, seq⟩ := pl
  simp only at isT seq
  subst isT
  subst seq
  have many : its.toArray.size = ys.length := by rw [List.size_toArray]; exact rv.length.symm
  have place : ∀ (m : Nat) (hm : m < its.toArray.size), ∃ z', ys[m]? = some z' ∧ eqU y its.toArray[m] = eqV z' y := fun m hm => by
    have hm' : m < ys.length := by rw [← many]; exact hm
    obtain ⟨u, hu, ru⟩ := rv.get (i := m) (x := ys[m]) (List.getElem?_eq_getElem hm')
    refine ⟨ys[m], List.getElem?_eq_getElem hm', ?_⟩
    have e : its.toArray[m] = u := by simpa using (List.getElem?_eq_some_iff.mp hu).2
    rw [e]
    exact eqU_of ru (flat_at fys (List.getElem?_eq_getElem hm'))
  have hj : j < its.toArray.size := by rw [many]; exact (List.getElem?_eq_some_iff.mp hz).1
  refine call_meets PySem.F.slot_tuple_index ⟨_, look, rfl⟩ PySem.F.entry_tuple_index (PySem.F.args_tuple_index_2 _ _) (TI.tuple_indexAt a its.toArray n dd sl uy (eqU y) j hj ?_ ?_)
    ⟨look, fun u hu => mem_eqAt ry fy rv fys u (by simpa using hu), ⟨.int (j : Nat), H, J.tok _, ⟨_, rfl⟩, q⟩⟩
  · obtain ⟨z', h1, h2⟩ := place j hj
    rw [hz] at h1
    cases h1
    rw [h2]; exact hit
  · intro m hm hmj
    obtain ⟨z', h1, h2⟩ := place m hm
    rw [h2]; exact miss m z' hmj h1
/-- a list, or a tuple without a dict -/
def tIndex (K : PySem.W.Frag) (to : TE) (t : TA) : TE := fun σ H Q => to σ H fun x H1 => (tyV K "list" x H1 ∧ t σ H1 fun xs H2 => rIndex K x xs H2 Q) ∨ ((∃ a ys, x = .ref a ∧ Sol H1 a ys) ∧ t σ H1 fun xs H2 => rIndexT K x xs H2 Q)
theorem pe_index {o e : Expr} {to : TE} {t : TA} {apos cpos : Pos} (ho : PE X o to) (ha : PA X [e] t)
    (hbase : attributeBase o "index" X.env (eval o X.env) = eval o X.env := by rfl)
    (hfew : ((backTo cpos (starEach [e] X.env)).all (fun x => !x.1) && (backToKw cpos (keywordEach [] X.env)).all (fun x => x.1.isSome) && decide ([e].length + ([] : List Keyword).length + (if ([] : List Keyword).isEmpty then 0 else 1) < 30)) = true := by rfl)
    (hline : (apos.endLine == cpos.line) = true := by rfl) (hs : starEach [e] X.env = (false, eval e X.env) :: starEach [] X.env := by rfl) (hplain : (backTo cpos (starEach [] X.env)).any (·.1) = false := by rfl) :
    PE X (.Call (.Attribute o "index" apos) [e] [] cpos) (tIndex X.K to t) := by
  constructor
  intro pins s σ H Q J want
  refine wpAny_Call_method_late hbase hfew hline rfl (thn (ho.run pins s σ H _ J want) ?_)
  rintro v s' ⟨x, H', J', rx, ways⟩
  have go : ∀ (id : String) (r : V → List V → Hp → VK → Prop), MtR X id r → (t σ H' fun xs H2 => r x xs H2 Q) → wpAny (model X.prog X.w) X.A (callWith cpos (.builtin id) [v] (backTo cpos (starEach [e] X.env)) []) (EP X pins σ Q) X.xe s' := by
    intro id r hm hq
    have hA := ha.run cpos pins s' σ H' _ J' hq
    rw [hs] at hA ⊢
    refine Calls.callWith_builtin (by show (false || (backTo cpos (starEach [] X.env)).any (·.1)) = false; rw [hplain]; rfl) (Calls.evalArgs_plain (thn hA ?_))
    rintro us s2 ⟨xs, H2, J2, rs, q2⟩
    exact hm pins s2 σ H2 x xs v us Q J2 rx rs q2
  rcases ways with ⟨ty, hq⟩ | ⟨⟨a, ys, rfl, o', nd, at_a⟩, hq⟩
  · obtain ⟨h1, h2⟩ := tyV_is J' rx ty
    exact ⟨"list", _, PySem.F.plainAttrs_list, PySem.F.slot_list_index, PySem.F.type_list_index, h1, h2, go _ _ mt_index hq⟩
  · cases rx
    have ok : ObjOk X.prog X.w H' s'.heap a (.frz o' (.tup ys)) := J'.hok a _ at_a
    obtain ⟨k1, k2, its, rv, k3⟩ := ok
    refine ⟨"tuple", _, PySem.F.plainAttrs_tuple, PySem.F.slot_tuple_index, PySem.F.type_tuple_index, k3.typeIs, fun b e => ?_, go _ _ mt_indexT hq⟩
    cases e
    exact ⟨o', k1, nd⟩
end
section
variable {w : World} {K : PySem.W.Frag} {ta te : TE} {f g : DTE}
/-- the first place of an int among ints -/
def dIndex (f g : DTE)  (ε : Env) (Q : R → Env → Prop) : Prop := f ε fun x ε1 => match x.dat.bind PyData.its with
  | some ds => g ε1 fun y ε2 => match y.dat, intsD ds with
    | some (.int k), some ns => k ∈ ns ∧ Q (.sh (.int (ns.idxOf k : Nat))) ε2
    | _, _ => False
  | none => False
theorem idx_get {ms : List Int} {z : Int} (h : z ∈ ms) : ms[ms.idxOf z]? = some z := by
  have hl := List.idxOf_lt_length_of_mem h
  rw [List.getElem?_eq_getElem hl, List.getElem_idxOf hl]
theorem idx_first : ∀ (ms : List Int) (z : Int) (j : Nat), j < ms.idxOf z → ms[j]? ≠ some z
  | [], z, j, h => by simp at h
  | x :: ms, z, j, h => by
    rw [List.idxOf_cons] at h
    by_cases q : x = z
    · subst q; simp at h
    · have qb : (x == z) = false := beq_eq_false_iff_ne.mpr q
      rw [qb] at h
      cases j with
      | zero => intro e; exact q (Option.some.inj e)
      | succ j =>
        intro e
        exact idx_first ms z j (by simp at h; omega) e
theorem flat_ints (ns : List Int) : (IL ns).all flatV = true := by
  rw [List.all_eq_true]
  intro x hx
  obtain ⟨z, _, rfl⟩ := List.mem_map.mp hx
  rfl
theorem eqV_int (a b : Int) : eqV (.int a) (.int b) = decide (a = b) := by
  simp [eqV]
  rfl
theorem se_index (hf : SE w ta f) (hg : SE w te g) : SE w (tIndex K ta (tCons te tNil)) (dIndex f g) := by
  constructor
  · intro ε A B h q
    refine hf.mono _ _ _ (fun x ε1 q => ?_) q
    split at q
    · refine hg.mono _ _ _ (fun y ε2 q => ?_) q
      split at q
      · exact ⟨q.1, h _ _ q.2⟩
      · exact q.elim
    · exact q.elim
  · intro Z O σ ε L H Q X q
    refine hf.run Z O σ ε L H _ X (hf.mono _ _ _ (fun x ε1 q => ?_) q)
    intro v L1 H1 X1 e1 r1
    have miss : ∀ (ns : List Int) (k : Int) (m : Nat) (z' : V), m < ns.idxOf k → (IL ns)[m]? = some z' → eqV z' (.int k) = false := by
      intro ns k m z' hm hz
      rw [List.getElem?_map] at hz
      cases hn : ns[m]? with
      | none => rw [hn] at hz; cases hz
      | some n =>
        rw [hn] at hz
        cases hz
        rw [eqV_int]
        exact decide_eq_false fun e => idx_first ns k m hm (by rw [hn, e])
    split at q
    · rename_i ds hds
      cases hx : x.dat with
      | none => rw [hx] at hds; cases hds
      | some d =>
        rw [hx] at hds
        cases d with
        | list es =>
          cases hds
          obtain ⟨a, ys, rfl, k1, k2⟩ := (r1.vl hx).lst X1.lh
          refine .inl ⟨.inl ⟨rfl, _, SqL.of k1⟩, hg.run Z O σ ε1 L1 H1 _ X1 (hg.mono _ _ _ (fun y ε2 q => ?_) q)⟩
          intro u L2 H2 X2 e2 r2
          split at q
          · rename_i k ns hk hn
            cases (r2.vl hk).int
            obtain ⟨_, _, ea, k3, k4⟩ := ((r1.mono X1 e2).vl hx).lst X2.lh
            cases ea
            rw [intsD_is hn] at k4
            cases ints_dvs k4
            exact ⟨a, _, .int k, ns.idxOf k, .int k, rfl, rfl, SqL.of k3, rfl, flat_ints ns, IL_get (idx_get q.1), by rw [eqV_int, decide_eq_true rfl], miss ns k, q.2 _ L2 H2 X2 (e1.trans e2) (.int _)⟩
          · exact q.elim
        | tuple es =>
          cases hds
          obtain ⟨a, ys, rfl, k1, k2⟩ := (r1.vl hx).tup
          refine .inr ⟨⟨a, ys, rfl, k1.to X1.lh⟩, hg.run Z O σ ε1 L1 H1 _ X1 (hg.mono _ _ _ (fun y ε2 q => ?_) q)⟩
          intro u L2 H2 X2 e2 r2
          split at q
          · rename_i k ns hk hn
            cases (r2.vl hk).int
            rw [intsD_is hn] at k2
            cases ints_dvs k2
            exact ⟨a, _, .int k, ns.idxOf k, .int k, rfl, rfl, ((k1.to e2.ll).to X2.lh).seq, rfl, flat_ints ns, IL_get (idx_get q.1), by rw [eqV_int, decide_eq_true rfl], miss ns k, q.2 _ L2 H2 X2 (e1.trans e2) (.int _)⟩
          · exact q.elim
        | _ => cases hds
    · exact q.elim
end
end Lp

namespace Lp
open PySem PySem.Spec PyProof.Rows L2
/-! ### enumerate, zip -/
section
variable {w : World} {K : PySem.W.Frag} {ta te : TE} {f g : DTE}
def enD (ds : List PyData) : List PyData := ds.mapIdx fun i d => .tuple [.int (i : Nat), d]
theorem enD_len (ds : List PyData) : (enD ds).length = ds.length := by unfold enD; rw [List.length_mapIdx]
theorem enD_get {ds : List PyData} {i : Nat} {e : PyData} (h : (enD ds)[i]? = some e) : ∃ d, ds[i]? = some d ∧ e = .tuple [.int (i : Nat), d] := by
  unfold enD at h
  rw [List.getElem?_mapIdx] at h
  cases q : ds[i]? with
  | none => rw [q] at h; cases h
  | some d => rw [q] at h; cases h; exact ⟨d, rfl, rfl⟩
theorem walkS_enum {L : Hp} {a : Addr} {xs : List V} {ds : List PyData} (h : L a = some (.lst xs)) (r : DVs L xs ds) : WalkS true L (Ite K a) (enD ds) := by
  have hl := r.len
  refine ⟨fun i L' H' s1 s2 hi => ?_, fun L' H' s1 s2 => ?_, fun i d L' H' x H2 s1 s2 hd y => ?_⟩
  · rw [enD_len] at hi
    exact ⟨xs, xs[i]'(by omega), SqL.of (s2 _ _ (s1 _ _ h)), List.getElem?_eq_getElem (by omega)⟩
  · rw [enD_len]
    exact ⟨xs, SqL.of (s2 _ _ (s1 _ _ h)), by omega⟩
  · obtain ⟨T, z, rfl, nT, rfl, y2⟩ := y
    have hx := y2 xs (SqL.of (s2 _ _ (s1 _ _ h)))
    obtain ⟨d', hd', rfl⟩ := enD_get hd
    obtain ⟨v, h1, h2⟩ := r.get hd'
    rw [hx] at h1
    cases h1
    exact ⟨L', Ext.own nT, same_own s2 (s2.free nT), .inr ⟨T, _, _, rfl, rfl, upd_same, .cons (.int _) (.cons (h2.to s1) .nil)⟩⟩
def dEnum (f : DTA)  (ε : Env) (Q : List PyData → Bool → Env → Prop) : Prop := f ε fun rs ε1 => match rs with
  | [.sh (.list ds)] => Q (enD ds) true ε1
  | _ => False
theorem si_enum {n : Nat} {t : TA} {f : DTA} (hf : SA w n t f) : SI w true (iEnum K t) (dEnum f) := by
  constructor
  · intro ε A B h q
    refine hf.mono _ _ _ (fun r ε1 q => ?_) q
    split at q
    · exact h _ _ _ q
    · exact q.elim
  · intro Z O σ ε L H R X q
    refine hf.run Z O σ ε L H _ X (hf.mono _ _ _ (fun r ε1 q => ?_) q)
    intro vs L1 H1 X1 e1 r1 hl np
    split at q
    · rename_i ds
      cases r1 with
      | cons r1 r2 =>
        cases r2
        cases (show DV L1 _ (.list ds) from r1) with
        | lst h1 h2 =>
          have W := walkS_enum (K := K) h1 h2
          exact ⟨_, _, rfl, SqL.of (X1.lh _ _ h1), q _ L1 H1 X1 e1 W.e fun _ => W⟩
    · exact q.elim
def zipDs (xs ys : List PyData) : List PyData := List.zipWith (fun a b => .tuple [a, b]) xs ys
theorem zipDs_len (xs ys : List PyData) : (zipDs xs ys).length = min xs.length ys.length := by unfold zipDs; rw [List.length_zipWith]
theorem zipDs_get {xs ys : List PyData} {i : Nat} {e : PyData} (h : (zipDs xs ys)[i]? = some e) : ∃ a b, xs[i]? = some a ∧ ys[i]? = some b ∧ e = .tuple [a, b] := by
  unfold zipDs at h
  rw [List.getElem?_zipWith] at h
  cases q : xs[i]? with
  | none => rw [q] at h; cases h
  | some a =>
    rw [q] at h
    cases q2 : ys[i]? with
    | none => rw [q2] at h; cases h
    | some b => rw [q2] at h; cases h; exact ⟨a, b, rfl, rfl, rfl⟩
theorem walkS_zipL {L : Hp} {a b : Addr} {xs ys : List V} {ds es : List PyData} (h : L a = some (.lst xs)) (k : L b = some (.lst ys)) (r : DVs L xs ds) (q : DVs L ys es) : WalkS true L (Itz K a b) (zipDs ds es) := by
  have hl := r.len
  have kl := q.len
  refine ⟨fun i L' H' s1 s2 hi => ?_, fun L' H' s1 s2 => ?_, fun i d L' H' x H2 s1 s2 hd y => ?_⟩
  · rw [zipDs_len] at hi
    exact ⟨xs, ys, xs[i]'(by omega), ys[i]'(by omega), SqL.of (s2 _ _ (s1 _ _ h)), SqL.of (s2 _ _ (s1 _ _ k)), List.getElem?_eq_getElem (by omega), List.getElem?_eq_getElem (by omega)⟩
  · rw [zipDs_len]
    exact ⟨xs, ys, SqL.of (s2 _ _ (s1 _ _ h)), SqL.of (s2 _ _ (s1 _ _ k)), by omega⟩
  · obtain ⟨T, z, z', rfl, nT, rfl, y2, y3⟩ := y
    have hx := y2 xs (SqL.of (s2 _ _ (s1 _ _ h)))
    have hy := y3 ys (SqL.of (s2 _ _ (s1 _ _ k)))
    obtain ⟨d', e', hd', he', rfl⟩ := zipDs_get hd
    obtain ⟨v, h1, h2⟩ := r.get hd'
    obtain ⟨u, k1, k2⟩ := q.get he'
    rw [hx] at h1
    rw [hy] at k1
    cases h1
    cases k1
    exact ⟨L', Ext.own nT, same_own s2 (s2.free nT), .inr ⟨T, _, _, rfl, rfl, upd_same, .cons (h2.to s1) (.cons (k2.to s1) .nil)⟩⟩
theorem walkS_zipT {L : Hp} {a b : Addr} {xs ys : List V} {ds es : List PyData} (h : Sol L a xs) (k : Sol L b ys) (r : DVs L xs ds) (q : DVs L ys es) : WalkS true L (RZ.ItzT K a b) (zipDs ds es) := by
  have hl := r.len
  have kl := q.len
  refine ⟨fun i L' H' s1 s2 hi => ?_, fun L' H' s1 s2 => ?_, fun i d L' H' x H2 s1 s2 hd y => ?_⟩
  · rw [zipDs_len] at hi
    exact ⟨xs, ys, xs[i]'(by omega), ys[i]'(by omega), ((h.to s1).to s2).seq, ((k.to s1).to s2).seq, List.getElem?_eq_getElem (by omega), List.getElem?_eq_getElem (by omega)⟩
  · rw [zipDs_len]
    exact ⟨xs, ys, ((h.to s1).to s2).seq, ((k.to s1).to s2).seq, by omega⟩
  · obtain ⟨T, z, z', rfl, nT, rfl, y2, y3⟩ := y
    have hx := y2 xs ((h.to s1).to s2).seq
    have hy := y3 ys ((k.to s1).to s2).seq
    obtain ⟨d', e', hd', he', rfl⟩ := zipDs_get hd
    obtain ⟨v, h1, h2⟩ := r.get hd'
    obtain ⟨u, k1, k2⟩ := q.get he'
    rw [hx] at h1
    rw [hy] at k1
    cases h1
    cases k1
    exact ⟨L', Ext.own nT, same_own s2 (s2.free nT), .inr ⟨T, _, _, rfl, rfl, upd_same, .cons (h2.to s1) (.cons (k2.to s1) .nil)⟩⟩
def dZip (f : DTA)  (ε : Env) (Q : List PyData → Bool → Env → Prop) : Prop := f ε fun rs ε1 => match rs with
  | [.sh (.list xs), .sh (.list ys)] => Q (zipDs xs ys) true ε1
  | [.sh (.tuple xs), .sh (.tuple ys)] => Q (zipDs xs ys) true ε1
  | _ => False
theorem si_zip {n : Nat} {t : TA} {f : DTA} (hf : SA w n t f) : SI w true (RZ.iZipA K t) (dZip f) := by
  constructor
  · intro ε A B h q
    refine hf.mono _ _ _ (fun r ε1 q => ?_) q
    split at q
    · exact h _ _ _ q
    · exact h _ _ _ q
    · exact q.elim
  · intro Z O σ ε L H R X q
    refine hf.run Z O σ ε L H _ X (hf.mono _ _ _ (fun r ε1 q => ?_) q)
    intro vs L1 H1 X1 e1 r1 hl np
    split at q
    · rename_i xs ys
      cases r1 with
      | cons r1 r2 =>
        cases r2 with
        | cons r2 r3 =>
          cases r3
          cases (show DV L1 _ (.list xs) from r1) with
          | lst h1 h2 =>
            cases (show DV L1 _ (.list ys) from r2) with
            | lst k1 k2 =>
              have W := walkS_zipL (K := K) h1 k1 h2 k2
              exact ⟨_, _, _, _, rfl, .inl ⟨SqL.of (X1.lh _ _ h1), SqL.of (X1.lh _ _ k1), q _ L1 H1 X1 e1 W.e fun _ => W⟩⟩
    · rename_i xs ys
      cases r1 with
      | cons r1 r2 =>
        cases r2 with
        | cons r2 r3 =>
          cases r3
          cases (show DV L1 _ (.tuple xs) from r1) with
          | tup h1 h2 =>
            cases (show DV L1 _ (.tuple ys) from r2) with
            | tup k1 k2 =>
              have W := walkS_zipT (K := K) h1 k1 h2 k2
              exact ⟨_, _, _, _, rfl, .inr ⟨(h1.to X1.lh).seq, (k1.to X1.lh).seq, q _ L1 H1 X1 e1 W.e fun _ => W⟩⟩
    · exact q.elim
/-! ### sorted({.. for ..}), the items tuples of ints -/
def scD (γ : DTG) (f : DTE) (vs : List Nat) (s : List SV) (Q : R → Env → Prop) : List PyData → List (List Int) → Nat → Prop
  | [], acc, n => ∀ RS, Asc acc RS → Q (.nw (dT RS)) ⟨s, n⟩
  | d :: ds, acc, n => γ d ⟨wipeE ⟨s, n⟩ vs, n⟩ fun ε1 => f ε1 fun r ε3 => match r with
      | .sh (.tuple es) => match intsD es with
        | some (x :: ns) => acc.length + 1 < 64 ∧ scD γ f vs s Q ds (acc ++ [x :: ns]) ε3.c
        | _ => False
      | _ => False
def dSortSc (i : DTI) (γ : DTG) (f : DTE) (vs : List Nat)  (ε : Env) (Q : R → Env → Prop) : Prop := i ε fun ds _ ε1 => scD γ f vs ε1.s Q ds [] ε1.c
theorem scD_mono {pk : Bool} {g : TG} {γ : DTG} {js vs : List Nat} {s : List SV} {A B : R → Env → Prop} (hg : SG w pk js g γ) (hf : SE w te f) (h : ∀ r ε, A r ε → B r ε) : ∀ (ds : List PyData) (acc : List (List Int)) (n : Nat), scD γ f vs s A ds acc n → scD γ f vs s B ds acc n
  | [], acc, n, z => fun RS hR => h _ _ (z RS hR)
  | d :: ds, acc, n, z => by
    refine hg.mono _ _ _ _ (fun ε1 z => hf.mono _ _ _ (fun r ε3 z => ?_) z) z
    split at z
    · split at z
      · exact ⟨z.1, scD_mono hg hf h ds _ _ z.2⟩
      · exact z.elim
    · exact z.elim
/-- an object of one's own that no slot holds changes -/
theorem Rep.side {Z : Zx} {O : Addr → Prop} {σ : L2.St} {ε : Env} {L H : Hp} {D : Addr} {o : HO} (x : Rep w Z O L H σ ε) (lD : L D = none) (n0 : Z.H0 D = none) (nO : ¬ O D) : Rep w Z O L (upd H D o) σ ε := by
  refine ⟨same_own x.lh lD, x.pn, ⟨x.ex.ll, fun a o h nb => ?_, fun a h => ?_, x.ex.fr⟩, fun b hb => ?_, fun a h => ⟨?_, (x.oh a h).2⟩, x.len, fun i y hy => ?_, x.di⟩
  · rw [upd_ne (ne_of_none h n0)]; exact x.ex.hh a o h nb
  · by_cases q : a = D
    · rw [q, upd_same]; exact (fun z => nomatch z)
    · rw [upd_ne q]; exact x.ex.dom a h
  · obtain ⟨q1, q2, q3⟩ := x.bo b hb
    exact ⟨q1, q2.keep (upd_ne (ne_at q3 n0)), q3⟩
  · rw [upd_ne (fun q => nO (by rw [← q]; exact h))]; exact (x.oh a h).1
  · obtain ⟨o, q1, q2⟩ := x.sl i y hy
    refine ⟨o, q1, ?_⟩
    cases y with
    | ow ds =>
      obtain ⟨a, ys, g1, g2, g3, g4, g5, g6⟩ := q2
      exact ⟨a, ys, g1, g2, g3, g4, by rw [upd_ne (fun q => nO (by rw [← q]; exact g2))]; exact g5, g6⟩
    | st S n =>
      obtain ⟨a, g1, g2, g3, g4, g5⟩ := q2
      exact ⟨a, g1, g2, g3, g4, by rw [upd_ne (fun q => nO (by rw [← q]; exact g2))]; exact g5⟩
    | _ => exact q2
theorem Ext.side {b : Option Addr} {L H L' H' : Hp} {D : Addr} {o : HO} (e : Ext b L H L' H') (nD : H D = none) : Ext b L H L' (upd H' D o) := by
  refine ⟨e.ll, fun a u h nb => ?_, fun a h => ?_, e.fr⟩
  · rw [upd_ne (ne_of_none h nD)]; exact e.hh a u h nb
  · by_cases q : a = D
    · rw [q, upd_same]; exact (fun z => nomatch z)
    · rw [upd_ne q]; exact e.dom a h
theorem se_sortSc {P : Program} {pk : Bool} {wi : TI} {i : DTI} {g : TG} {γ : DTG} {vs : List Nat} (hi : SI w pk wi i) (hg : SG w pk vs g γ) (hf : SE w te f) : SE w (tCB (rSortS K P w) (tCons (tScT K P w wi g te vs) tNil)) (dSortSc i γ f vs) := by
  constructor
  · intro ε A B h z
    exact hi.mono _ _ _ (fun ds b ε1 z => scD_mono hg hf h ds [] _ z) z
  · intro Z O σ ε L H Q X z
    refine hi.run Z O σ ε L H _ X (hi.mono _ _ _ (fun ds b ε1 z => ?_) z)
    intro J L1 H1 X1 e1 W _ D nD
    have eD : Ext none L1 H1 L1 (upd H1 D (SetTO P w D [])) := Ext.own nD
    have X1' := X1.step eD (same_own X1.lh (X1.lh.free nD))
    have n0 : Z.H0 D = none := X1.ex.free nD
    have nO : ¬ O D := fun o => (X1.oh D o).1 nD
    have bD : Z.b ≠ some D := X1.nob n0
    refine ⟨fun k m H2 => k + m = ds.length ∧ ∃ L2 n acc M, Rep w Z O L2 H2 σ ⟨ε1.s, n⟩ ∧ Ext Z.b L1 H1 L2 H2 ∧ H2 D = some (SetTO P w D M) ∧ (∀ p ∈ M, Sol L2 p.1 (IL p.2) ∧ p.2 ≠ []) ∧ M.length ≤ acc.length ∧ (∀ x, x ∈ M.map (·.2) ↔ x ∈ acc) ∧ L2 D = none ∧ scD γ f vs ε1.s (fun r ε' => ∀ v L' H', Rep w Z O L' H' σ ε' → Ext Z.b L H L' H' → VR w Z O σ H L' H' v r → Q v H') (ds.drop k) acc n,
      ⟨ds.length, by omega, L1, ε1.c, [], [], X1', eD.any, upd_same, (fun p h => nomatch h), Nat.le_refl _, fun x => Iff.rfl, X1.lh.free nD, by rw [List.drop_zero]; exact z⟩, ?_⟩
    rintro k m H2 ⟨hkm, L2, n, acc, M, X2, e2, hD, rM, lM, mem, lD, z2⟩
    by_cases hlt : k < ds.length
    · refine .inr ⟨W.go k L2 H2 e2 X2.lh hlt, fun H' => ∃ L2 n acc M, Rep w Z O L2 H' σ ⟨ε1.s, n⟩ ∧ Ext Z.b L1 H1 L2 H' ∧ H' D = some (SetTO P w D M) ∧ (∀ p ∈ M, Sol L2 p.1 (IL p.2) ∧ p.2 ≠ []) ∧ M.length ≤ acc.length ∧ (∀ x, x ∈ M.map (·.2) ↔ x ∈ acc) ∧ L2 D = none ∧ scD γ f vs ε1.s (fun r ε' => ∀ v L' H', Rep w Z O L' H' σ ε' → Ext Z.b L H L' H' → VR w Z O σ H L' H' v r → Q v H') (ds.drop (k + 1)) acc n,
        fun H' q => ⟨m - 1, by omega, by omega, q⟩, fun x H' y => ?_⟩
      have hd : ds[k]? = some ds[k] := List.getElem?_eq_getElem hlt
      rw [List.drop_eq_getElem_cons hlt] at z2
      obtain ⟨L3, e3, s3, r3⟩ := W.yld k ds[k] L2 H2 x H' e2 X2.lh hd y
      have X3 := X2.step e3 s3
      have hD3 := e3.hh D _ hD (fun z => nomatch z)
      have lD3 : L3 D = none := e3.fr D lD (by rw [hD]; exact (fun z => nomatch z))
      refine hg.run Z O _ _ L3 H' x ds[k] _ (X3.wipe vs) r3 (hg.mono _ _ _ _ (fun ε3 z3 σ3 X4 b3 => ⟨wipe_but b3, ?_⟩) z2)
      refine hf.run Z O σ3 ε3 L3 H' _ X4 (hf.mono _ _ _ (fun r ε6 z6 => ?_) z3)
      intro v L6 H6 X6 e6 r6
      split at z6
      · rename_i es
        split at z6
        · rename_i x0 ns hn
          rw [intsD_is hn] at r6
          cases (show DV L6 v (.tuple (dI (x0 :: ns))) from r6) with
          | tup h1 h2 =>
            cases ints_dvs h2
            rename_i b
            have hD6 := e6.hh D _ hD3 bD
            have lD6 : L6 D = none := e6.fr D lD3 (by rw [hD3]; exact (fun z => nomatch z))
            have et := (e3.any (b := Z.b)).trans e6
            have X8 : Rep w Z O L6 H6 σ ⟨ε1.s, ε6.c⟩ := X2.exts et X6.lh fun b hb => (X6.bo b hb).2.1
            have rM6 : ∀ p ∈ M, Sol L6 p.1 (IL p.2) ∧ p.2 ≠ [] := fun p hp => ⟨(rM p hp).1.to et.ll, (rM p hp).2⟩
            refine ⟨b, x0 :: ns, M, rfl, (h1.to X6.lh).seq, hD6, fun p hp => ((rM6 p hp).1.to X6.lh).seq, by omega, fun M' c1 c2 => ?_⟩
            refine ⟨L6, ε6.c, acc ++ [x0 :: ns], M', X8.side lD6 n0 nO, (e2.trans et).side nD, upd_same, ?_, ?_, ?_, lD6, z6.2⟩
            all_goals by_cases c : (x0 :: ns) ∈ M.map (·.2)
            · rw [c1 c]; exact rM6
            · intro p hp
              rcases List.mem_cons.mp ((c2 c).mem_iff.mp hp) with rfl | hp
              · exact ⟨h1, fun z => nomatch z⟩
              · exact rM6 p hp
            · rw [c1 c, List.length_append]; exact Nat.le_trans lM (Nat.le_add_right _ _)
            · rw [(c2 c).length_eq, List.length_append]
              exact Nat.succ_le_succ lM
            · intro y
              rw [c1 c, mem y, List.mem_append, List.mem_singleton]
              exact ⟨.inl, fun h => h.elim id fun e => by rw [e]; exact (mem _).mp c⟩
            · intro y
              rw [((c2 c).map (·.2)).mem_iff, List.map_cons, List.mem_cons, mem y, List.mem_append, List.mem_singleton]
              exact ⟨fun h => h.elim .inr .inl, fun h => h.elim .inr .inl⟩
        · exact z6.elim
      · exact z6.elim
    · have e : k = ds.length := by omega
      subst e
      rw [List.drop_length] at z2
      refine .inl ⟨W.stop L2 H2 e2 X2.lh, D, M, rfl, hD, fun p hp => ⟨((rM p hp).1.to X2.lh).seq, (rM p hp).2⟩, fun M' c pm rk nd nc => ?_⟩
      have ec : Ext none L2 H2 L2 (upd H2 c (.lst (RL M'))) := Ext.own nc
      have X3 := X2.step ec (same_own X2.lh (X2.lh.free nc))
      have et := e1.trans e2
      refine z2 (M'.map (·.2)) ⟨nd, rk.asc, fun x => ?_⟩ _ L2 _ X3 (et.trans ec.any) (VR.back (VR0.vr (r := .nw (dT (M'.map (·.2)))) ⟨c, _, rfl, nc, X2.lh.free nc, upd_same, refs_tups M' fun p hp => (rM p (pm.mem_iff.mp hp)).1⟩ X2) et)
      rw [(pm.map (·.2)).mem_iff]; exact mem x
end
/-! ### isinstance -/
section
variable {w : World} {K : PySem.W.Frag} {te : TE} {f : DTE}
def tyD : PyData → String
  | .none => "NoneType"
  | .bool _ => "bool"
  | .int _ => "int"
  | .str _ => "str"
  | .list _ => "list"
  | .tuple _ => "tuple"
  | .dict _ => "dict"
theorem tyX_of {L H : Hp} {v : V} {d : PyData} (h : VL L H v d) (s : Same L H) : TyX K H v (.type (tyD d)) := by
  cases d with
  | none => rw [h.non]; exact .base .non
  | bool b => rw [h.bl]; exact .base (.bl _)
  | int i => rw [h.int]; exact .base (.int _)
  | str x => rw [h.str]; exact .base (.str _)
  | list ds =>
    obtain ⟨a, xs, rfl, h1, _⟩ := h.lst s
    exact .base (.lst h1)
  | tuple ds =>
    obtain ⟨a, xs, rfl, h1, _⟩ := h.tup
    obtain ⟨o, _, e⟩ := h1.to s
    exact .fTuple e
  | dict _ =>
    rcases h with h | ⟨a, xs, es, e, _⟩
    · cases h
    · cases e
/-- is a value of type a one of type b -/
def isaT (a b : String) : Bool := a == b || (a == "bool" && b == "int")
def TyIn (T : String) : Prop := T = "int" ∨ T = "bool" ∨ T = "str" ∨ T = "list" ∨ T = "tuple"
theorem kit_all : ∀ a ∈ ["NoneType", "bool", "int", "str", "list", "tuple", "dict"], ∀ b ∈ ["int", "bool", "str", "list", "tuple"], kitB a b = some (isaT a b) := by decide +kernel
theorem kit_tyD {T : String} (hT : TyIn T) (d : PyData) : kitB (tyD d) T = some (isaT (tyD d) T) := by
  refine kit_all _ ?_ _ ?_
  · cases d <;> simp [tyD]
  · rcases hT with rfl | rfl | rfl | rfl | rfl <;> simp
def dIsi (T : String) (f : DTE)  (ε : Env) (Q : R → Env → Prop) : Prop := f ε fun r ε1 => match r.dat with
  | some d => Q (.sh (.bool (isaT (tyD d) T))) ε1
  | none => False
theorem se_isi {T : String} (hT : TyIn T) (hf : SE w te f) : SE w (tCB (rIsi K) (tCons te (tCons (tC (.ty T)) tNil))) (dIsi T f) := by
  constructor
  · intro ε A B h q
    refine hf.mono _ _ _ (fun r ε1 q => ?_) q
    split at q
    · exact h _ _ q
    · exact q.elim
  · intro Z O σ ε L H Q X q
    refine hf.run Z O σ ε L H _ X (hf.mono _ _ _ (fun r ε1 q => ?_) q)
    intro v L1 H1 X1 e1 r1
    split at q
    · rename_i d hd
      exact ⟨v, .ty T, .type (tyD d), .type T, _, rfl, .ty T, tyX_of (r1.vl hd) X1.lh, kit_ty (kit_tyD hT d), q _ L1 H1 X1 e1 (.bl _)⟩
    · exact q.elim
/-- isinstance(x, (list, tuple)) -/
def dIsi2 (T T' : String) (f : DTE)  (ε : Env) (Q : R → Env → Prop) : Prop := f ε fun r ε1 => match r.dat with
  | some d => Q (.sh (.bool (isaT (tyD d) T || isaT (tyD d) T'))) ε1
  | none => False
theorem se_isi2 {T T' : String} (hT : TyIn T) (hT' : TyIn T') (hf : SE w te f) : SE w (tCB (rIsiT K) (tCons te (tCons (tTup (tCons (tC (.ty T)) (tCons (tC (.ty T')) tNil))) tNil))) (dIsi2 T T' f) := by
  constructor
  · intro ε A B h q
    refine hf.mono _ _ _ (fun r ε1 q => ?_) q
    split at q
    · exact h _ _ q
    · exact q.elim
  · intro Z O σ ε L H Q X q
    refine hf.run Z O σ ε L H _ X (hf.mono _ _ _ (fun r ε1 q => ?_) q)
    intro v L1 H1 X1 e1 r1
    split at q
    · rename_i d hd
      refine ⟨by show 2 ≤ sizeLine; decide, fun p np => ?_⟩
      have e2 : Ext none L1 H1 L1 (upd H1 p (.tup [.ty T, .ty T'])) := Ext.own np
      have X2 := X1.step e2 (same_own X1.lh (X1.lh.free np))
      refine ⟨v, p, _, .type (tyD d), [.type T, .type T'], _, rfl, upd_same, .cons (.ty T) (.cons (.ty T') .nil), tyX_of ((r1.mono X1 e2.any).vl hd) X2.lh, ?_, q _ L1 _ X2 (e1.trans e2.any) (.bl _)⟩
      refine kitAny_cons (kit_ty (kit_tyD hT d)) (fun h => ?_) (fun h => by rw [h]; rfl)
      refine kitAny_cons (kit_ty (kit_tyD hT' d)) (fun h' => ?_) (fun h' => by rw [h', Bool.or_true])
      rw [h, h']; rfl
    · exact q.elim
end
end Lp

namespace Lp
open PySem PySem.Spec PyProof.Rows L2
/-- the module's names that are the built-ins' -/
structure Bi (mg : Str → Option Value) : Prop where
  len : mg "len" = none
  list : mg "list" = none
  tuple : mg "tuple" = none
  range : mg "range" = none
  enumerate : mg "enumerate" = none
  all : mg "all" = none
  isinstance : mg "isinstance" = none
  zip : mg "zip" = none
  abs : mg "abs" = none
  int : mg "int" = none
  str : mg "str" = none
  bool : mg "bool" = none
  repr : mg "repr" = none
  set : mg "set" = none
  min : mg "min" = none
  max : mg "max" = none
  sorted : mg "sorted" = none
  sum : mg "sum" = none
/-! ### is True; not by truth -/
def φIsB  (x y : PyData) (Q : R → Prop) : Prop := match x, y with
  | .bool a, .bool b => Q (.sh (.bool (decide (a = b))))
  | _, _ => False
theorem r2_isB : R2K (fun x y H Q => ∃ a b, x = .bl a ∧ y = .bl b ∧ Q (.bl (decide (a = b))) H) φIsB := by
  constructor
  · intro x y A B hAB q
    unfold φIsB at q ⊢
    split at q
    · exact hAB _ q
    · exact q.elim
  · intro L H x y dx dy Q s hx hy q
    unfold φIsB at q
    split at q
    · exact ⟨_, _, hx.bl, hy.bl, q _ L H (Ext.refl _ _ _) s (.bl _)⟩
    · exact q.elim
def dNotT (f : DTE)  (ε : Env) (Q : R → Env → Prop) : Prop := f ε fun r ε1 => match r.dat.bind truD with
  | some k => Q (.sh (.bool (!k))) ε1
  | _ => False
theorem se_notT {w : World} {K : PySem.W.Frag} {ta : TE} {f : DTE} (hf : SE w ta f) : SE w (tNotT K ta) (dNotT f) := by
  constructor
  · intro ε A B h q
    refine hf.mono _ _ _ (fun r ε1 q => ?_) q
    split at q
    · exact h _ _ q
    · exact q.elim
  · intro Z O σ ε L H Q X q
    refine hf.run Z O σ ε L H _ X (hf.mono _ _ _ (fun r ε1 q => ?_) q)
    intro v L1 H1 X1 e1 r1
    split at q
    · rename_i k ek
      cases ed : r.dat with
      | none => rw [ed] at ek; cases ek
      | some d =>
        rw [ed] at ek
        exact ⟨k, tru_of (r1.vl ed) X1.lh ek, q _ L1 H1 X1 e1 (.bl _)⟩
    · exact q.elim
/-! ### the rules with K named -/
section
variable {X : Cx} {K : PySem.W.Frag}
theorem ixK (e : X.K = K) : IxR X (rIx K) := e ▸ ix_seq
theorem slK (e : X.K = K) : SlR X (rSlB K) := e ▸ sl_both
theorem addK (e : X.K = K) : OpR X (binaryOp .Add) (rAdd K) := e ▸ op_addA
theorem eqK (e : X.K = K) (hu : X.A.units + 64 < cLine) : OpR X (compareOp .Eq) (rEqA K) := e ▸ op_eqA hu
theorem neK (e : X.K = K) (hu : X.A.units + 64 < cLine) : OpR X (compareOp .NotEq) (rNeA K) := e ▸ op_neA hu
theorem inK (e : X.K = K) (hu : X.A.units + 65 < cLine) : OpR X (compareOp .In) (rInA K) := e ▸ op_inA hu
theorem notInK (e : X.K = K) (hu : X.A.units + 65 < cLine) : OpR X (compareOp .NotIn) (rNotInA K) := e ▸ op_notInA hu
theorem lenK (e : X.K = K) : CallR X (.builtin "len") (rLen K) := e ▸ call_len_seq
theorem listK (e : X.K = K) : CallR X (.type "list") (rList K) := e ▸ call_list_of
theorem tupleK (e : X.K = K) : CallR X (.type "tuple") (rTuple K) := e ▸ call_tupleS
theorem minK (e : X.K = K) (hc : X.calm = true) : CallR X (.builtin "min") (rMinA K) := e ▸ cr_minA hc
theorem sumK (e : X.K = K) (hc : X.calm = true) : CallR X (.builtin "sum") (rSum K) := e ▸ cr_sum hc
theorem allK (e : X.K = K) (hc : X.calm = true) : CallR X (.builtin "all") (rAll K) := e ▸ cr_all hc
theorem anyK (e : X.K = K) (hc : X.calm = true) : CallR X (.builtin "any") (rAny K) := e ▸ cr_any hc
theorem sortK (e : X.K = K) : CallR X (.builtin "sorted") (rSortA K) := e ▸ cr_sortA
theorem sortSK {P : Program} {w : World} (e : X.K = K) (eP : X.prog = P) (ew : X.w = w) (hc : X.calm = true) : CallR X (.builtin "sorted") (rSortS K P w) := by
  subst e eP ew
  exact cr_sortS hc
theorem setTK {P : Program} {w : World} (e : X.K = K) (eP : X.prog = P) (ew : X.w = w) (hc : X.calm = true) (hu : X.A.units + 64 < cLine) : CallR X (.type "set") (rSetOfT K P w) := by
  subst e eP ew
  exact cr_setOfT hc hu
theorem seqK {tg o : Expr} {to : TE} (e : X.K = K) (ho : PE X o to) : PI X tg o (iSeq K to) := e ▸ pi_seq ho
theorem indexK {o e : Expr} {to : TE} {t : TA} {apos cpos : Pos} (h : X.K = K) (x : PE X (.Call (.Attribute o "index" apos) [e] [] cpos) (tIndex X.K to t)) : PE X (.Call (.Attribute o "index" apos) [e] [] cpos) (tIndex K to t) := h ▸ x
theorem gtupK {es : List Expr} {k : Nat} {t : TGs} {n : Nat} {pos : Pos} (e : X.K = K) (h : PG X (.Tuple es k pos) (gTup X.K n t)) : PG X (.Tuple es k pos) (gTup K n t) := e ▸ h
theorem enumK {tg o : Expr} {t : TA} (e : X.K = K) (h : PI X tg o (iEnum X.K t)) : PI X tg o (iEnum K t) := e ▸ h
theorem zipK {tg o : Expr} {t : TA} (e : X.K = K) (h : PI X tg o (RZ.iZipA X.K t)) : PI X tg o (RZ.iZipA K t) := e ▸ h
theorem isiK (e : X.K = K) : CallR X (.builtin "isinstance") (rIsi K) := e ▸ call_isi
theorem isiTK (e : X.K = K) : CallR X (.builtin "isinstance") (rIsiT K) := e ▸ call_isiT
theorem scTK {P : Program} {w : World} {e : Expr} {wi : TI} {g : TG} {te : TE} {vs : List Nat} (h : X.K = K) (eP : X.prog = P) (ew : X.w = w) (x : PE X e (tScT X.K X.prog X.w wi g te vs)) : PE X e (tScT K P w wi g te vs) := by
  subst h eP ew
  exact x
theorem enumA {ta : TA} {p pos tpos : Pos} {elts : List Expr} {kk : Nat} {a : Expr} (e : X.K = K) (hg : Gl X "enumerate") (hm : X.mg "enumerate" = none) (ha : PA X [a] ta) (hs : starEach [a] X.env = [(false, eval a X.env)] := by rfl) : PI X (.Tuple elts kk tpos) (.Call (.Name "enumerate" p) [a] [] pos) (iEnum K ta) := e ▸ pi_enum hg hm ha hs
theorem zipA {ta : TA} {p pos tpos : Pos} {elts : List Expr} {kk : Nat} {a a' : Expr} (e : X.K = K) (hg : Gl X "zip") (hm : X.mg "zip" = none) (ha : PA X [a, a'] ta) (hs : starEach [a, a'] X.env = (false, eval a X.env) :: starEach [a'] X.env := by rfl) (hpl : (backTo pos (starEach [a'] X.env)).any (·.1) = false := by rfl) : PI X (.Tuple elts kk tpos) (.Call (.Name "zip" p) [a, a'] [] pos) (RZ.iZipA K ta) := e ▸ RZ.pi_zipA hg hm ha hs hpl
theorem ipR {op : Operator} {r : R2} (h : OpR X (inplaceOp op) r) : PIp X op r := h
theorem iop_mulW : OpR X (inplaceOp .Mult) (rI CMulW fun i j => .int (i * j)) := opI fun _ _ _ _ _ _ _ hc q => imul_int q hc.ok
theorem hu65 {k : Nat} {A : Around} (hr : Room k A) : A.units + 65 < cLine := by have := hr.un; omega
theorem hu101 {k : Nat} {A : Around} (hr : Room k A) : A.units + 101 < cLine := by have := hr.un; omega
theorem bmK {e : Expr} {T : String} {r : V → List V → Hp → VK → Prop} {to : TE} {t : TA} (h : X.K = K) (x : PE X e (tBM X.K T r to t)) : PE X e (tBM K T r to t) := h ▸ x
theorem set0K {w : World} (e : X.w = w) : CallR X (.type "set") (rSet0 w) := e ▸ cr_set0
theorem saddK {w : World} {e : Expr} {to : TE} {t : TA} (h : X.w = w) (x : PE X e (tSAdd X.w to t)) : PE X e (tSAdd w to t) := h ▸ x
theorem snotinK {w : World} (e : X.w = w) : OpR X (compareOp .NotIn) (rSNotIn w) := e ▸ or_snotin
end
/-- a def that may be called -/
structure Cal (P : Program) (w : World) (K : PySem.W.Frag) (mg : Str → Option Value) (base : Heap) (x : Str) (k : Nat) (ps : List Str) (sp : Sp) (f : Addr) (fd : FuncData) : Prop where
  ok : FnOk P w K mg base CX0 k f fd ps sp
  g : mg x = some (.ref f)
  kp : PySem.W.keepIn K (.ref f) = true
  bd : Binds K fd ps []
/-! ### a call whose arguments are all named, in the reverse order -/
def KbR (fd : FuncData) (ps : List Str) : Prop := ∀ (s : Shared) (ws : List Value), ws.length = ps.length → BindsTo s fd ⟨[], ps.reverse.zip ws⟩ (ps.zip ws.reverse)
theorem Fun.kbr {K : PySem.W.Frag} {x qual : Str} {st : Stmt} {f : Addr} {fd : FuncData} {ps : List Str} (F : Fun K x qual st f fd)
    (h : ∀ (kV doc pm : Value) (an : Option Addr) (cdv ct : Value) (ws : List Value), ws.length = ps.length → bindArgs (PySem.W.fnOf x qual (defArgs st) (defBody st) (defScope st) .none kV doc pm an cdv ct) ⟨[], ps.reverse.zip ws⟩ = pure (ps.zip ws.reverse)) : KbR fd ps := by
  obtain ⟨oc, od, kV, doc, pm, an, cdv, ct, osl, rfl, lk, hcd⟩ := F.ex
  exact fun s ws hl => .of_eq (h kV doc pm an cdv ct ws hl)
theorem pe_callR {X : Cx} {CX : CXT} {k : Nat} {f : Addr} {fd : FuncData} {ps : List Str} {sp : Sp} {E : XK} {x : Str} {p pos : Pos} {kws : List Keyword} {tk : TA} (F : FnOk X.prog X.w X.K X.mg X.base CX k f fd ps sp) (hr : Room k X.A) (hg : Gl X x) (hm : X.mg x = some (.ref f)) (hk : PySem.W.keepIn X.K (.ref f) = true) (hb : KbR fd ps) (hx : Passes CX X E)
    (hkw : PK X kws tk) (hall : (backToKw pos (keywordEach kws X.env)).all (·.1.isSome) = true := by rfl) (hks : (backToKw pos (keywordEach kws X.env)).filterMap (·.1) = ps.reverse := by rfl) (hdb : (x == ("__debug__" : Str)) = false := by decide)
    (hpl : ((backTo pos (starEach [] X.env)).any (·.1) || (backToKw pos (keywordEach kws X.env)).any (·.1.isNone)) = false := by rfl) :
    PE X (.Call (.Name x p) [] kws pos) (tCallR sp E tk) := by
  refine ⟨fun pins s σ H Q I h => ?_⟩
  refine wpAny_Call_Name_kw (ld_glob I hg hm ?_ hdb)
  refine PySem.W.callWith_KW0 (h₀ := X.base) I.ok.mod.kin hk hall ?_ hpl
  refine thn (hkw.run pos pins s σ H _ I h) fun ws s2 ⟨zs, H2, I2, rz, q2⟩ => ⟨I2.kIn, ?_⟩
  rw [hks]
  have hl : ws.length = ps.length := by
    rw [← rz.length, ← List.length_reverse]; exact F.len _ _ _ _ q2
  refine wpAny_call (codeAny_mono (F.run X.A X.stack s2 H2 ⟨[], ps.reverse.zip ws⟩ ws.reverse zs.reverse Q E hr I2.env0 (hb s2 ws hl) rz.reverse q2) fun r s' hq => ?_)
  cases r with
  | error e => exact hx pins σ H2 s2 e s' I2 hq
  | ok fl =>
    cases fl with
    | ret u => exact I2.after hq
    | next => exact False.elim hq
    | brk => exact False.elim hq
    | cont => exact False.elim hq
theorem inV_ints (z : Int) : ∀ ns : List Int, inV (.int z) (IL ns) = decide (z ∈ ns)
  | [] => by simp [inV]
  | x :: r => by
    have ih := inV_ints z r
    unfold inV at ih ⊢
    show (eqV (.int x) (.int z) || (IL r).any fun y => eqV y (V.int z)) = _
    rw [ih]
    simp only [eqV]
    by_cases h : x = z
    · subst h; simp
    · have h2 : ¬ z = x := fun e => h e.symm
      simp [h, h2]
/-! ### promises that hold where no repr is under way -/
structure FnG (P : Program) (w : World) (K : PySem.W.Frag) (mg : Str → Option Value) (base : Heap) (k : Nat) (f : Addr) (fd : FuncData) (ps : List Str) (sp : Sp) : Prop where
  len : ∀ vs H Q E, sp vs H Q E → vs.length = ps.length
  go : ∀ (A : Around) (outer : List PySem.Env) (s : Shared) (H : Hp) (args : Args) (us : List Value) (vs : List V) (Q : VK) (E : XK), A.guards = some [] → Room k A → Env0 P w K mg base A outer s H →
    BindsTo s fd args (ps.zip us) → Vals vs us → sp vs H Q E → codeAny (model P w) A (.call (.ref f) args) (CR CX0 outer P w H s Q E) s
section
variable {P : Program} {w : World} {K : PySem.W.Frag} {mg : Str → Option Value} {base : Heap}
theorem okG {x qual : Str} {st : Stmt} {f : Addr} {fd : FuncData} {N ps : List Str} {k : Nat} {sp : Sp} (F : Fun K x qual st f fd) (S : FnScope N ps (defScope st)) (len : ∀ vs H Q E, sp vs H Q E → vs.length = ps.length)
    (body : ∀ (cdv : Value) (A : Around) (outer : List PySem.Env) (s : Shared) (H : Hp) (vs : List V) (Q : VK) (E : XK), A.guards = some [] → Room k (A.deeper (envOfC qual (defScope st) s.heap.objs.size f cdv)) → sp vs H Q E →
      ∃ t, PSs (cxOf CX0 P w K mg base N qual (defScope st) f cdv A outer s H E).nox (defBody st) t ∧ t { nx := fun _ H' => Q .non H', rt := Q } (L2.start N vs) H) : FnG P w K mg base (k + 1) f fd ps sp := by
  obtain ⟨oc, od, kV, doc, pm, an, cdv, ct, osl, rfl, look, code⟩ := F.ex
  constructor
  · exact len
  · intro A outer s H args us vs Q E gA room env bind rel want
    have stays : ∀ b o, base.get? b = some o → s.heap.get? b = some o := fun b o e => (env.bs b o e).1
    have inK := env.mod.kin.keeps stays
    obtain ⟨t, hT, hWant⟩ := body cdv A outer s H vs Q E gA (room.deeper _) want
    have places : ∀ y ∈ ps.zip us, (defScope st).names.lookup y.1 = some .local ∨ ((defScope st).names.lookup y.1 = some .cell ∧ ((cellsFrom (s.heap.objs.size + 1) (defScope st).names []).lookup y.1).isSome = true) := by
      rintro ⟨n, v⟩ hy
      exact (S.par n (List.of_mem_zip hy).1).imp id fun q => ⟨q, PySem.W.cellsFrom_some _ _ _ (.inl q)⟩
    refine codeAny_call_function room.depth (inK _ _ look) rfl S.co S.gen rfl (PySem.W.codeRec_of inK code) (bind _ _ _ _ (wpAny_newFunctionEnv_cells S.kind places ?_))
    intro env' e' s1 made
    subst e'
    have I0 : Inv (cxOf CX0 P w K mg base N qual (defScope st) f cdv A outer s H E) [] (L2.start N vs) H s1 := inv_start S room.hd env (len _ _ _ _ want) rel made
    have done : ∀ (σ' : L2.St) (H' : Hp) (v : V) (u : Value) (s' : Shared), Inv (cxOf CX0 P w K mg base N qual (defScope st) f cdv A outer s H E) [] σ' H' s' → RelV v u → Q v H' → CE outer P w H s Q u s' :=
      fun _ H' v _ _ J ru qv => ⟨v, H', J.os, J.bare, J.base, J.hok, ru, qv⟩
    refine ⟨(env.mod.nolimit.keeps stays).keeps made.toInCall.keep, codeAny_func (wpAny_mono ((PSs.nox hT).run [] s1 _ H _ I0 hWant) ?_ fun _ _ z => z)⟩
    intro fl s' ends
    match fl, ends with
    | .ret u, ends =>
      obtain ⟨v, σ', H', J, ru, qv⟩ := ends
      exact done σ' H' v u s' J ru qv
    | .next, ends =>
      obtain ⟨σ', H', J, qv⟩ := ends
      exact done σ' H' .non Value.none s' J rfl qv
    | .brk, ends => exact (ends.elim fun _ z => z.elim fun _ y => y.2).elim
    | .cont, ends => exact (ends.elim fun _ z => z.elim fun _ y => y.2).elim
end
/-- a call of such a def -/
theorem pe_callG {X : Cx} {k : Nat} {f : Addr} {fd : FuncData} {ps : List Str} {sp : Sp} {x : Str} {p pos : Pos} {e : Expr} {es : List Expr} {t : TA} (F : FnG X.prog X.w X.K X.mg X.base k f fd ps sp) (gA : X.A.guards = some []) (hr : Room k X.A) (hg : Gl X x) (hm : X.mg x = some (.ref f)) (hk : PySem.W.keepIn X.K (.ref f) = true) (hb : Binds X.K fd ps [])
    (ha : PA X (e :: es) t) (hdb : (x == ("__debug__" : Str)) = false := by decide) (he : starEach (e :: es) X.env = (false, eval e X.env) :: starEach es X.env := by rfl) (hpl : (backTo pos (starEach es X.env)).any (·.1) = false := by rfl) :
    PE X (.Call (.Name x p) (e :: es) [] pos) (tCall sp [] E0 t) := by
  constructor
  intro pins s σ H Q I h
  refine wpAny_Call_Name_kw (ld_glob I hg hm (PySem.W.callWith_K (h₀ := X.base) I.ok.mod.kin hk (thn (ha.run pos pins s σ H _ I h) ?_) he hpl) hdb)
  rintro us s1 ⟨vs, H1, J, rel, want⟩
  rw [List.append_nil] at want
  refine ⟨J.kIn, ?_⟩
  have hl : (us ++ []).length = ps.length := by rw [List.append_nil, ← rel.length]; exact F.len _ _ _ _ want
  have b := hb s1 us J.kIn hl
  rw [List.append_nil] at b
  refine wpAny_call (codeAny_mono (F.go X.A X.stack s1 H1 ⟨us, []⟩ us vs Q E0 gA hr J.env0 b rel want) fun r s' ends => ?_)
  match r, ends with
  | .ok (.ret u), ends => exact J.after ends
  | .ok .next, ends => exact ends.elim
  | .ok .brk, ends => exact ends.elim
  | .ok .cont, ends => exact ends.elim
  | .error _, ends => exact ends.elim
/-- the law's own call -/
theorem law_callG {P : Program} {w : World} {K : PySem.W.Frag} {mg mb : Str → Option Value} {k : Nat} {fa a : Addr} {fd : FuncData} {x : Str} {sp : Sp} {s₁ : Shared} {vs : List Value} {ns : List Int}
    (KX : K.In s₁.heap) (n1 : s₁.heap.Ns mainGlobals mg) (n2 : s₁.heap.Ns builtinsNs mb) (n3 : ∀ x : Str, x ≠ "__name__" → mb x = bootBuiltins x) (n4 : s₁.heap.NoLimit) (n5 : s₁.gens = #[])
    (n6 : s₁.heap.get? a = some { cls := .type "list", data := .seq vs.toArray }) (n7 : IntsAre vs ns) (n8 : ns.length ≤ sizeLine) (n9 : Room k callerA)
    (F : ∀ base : Heap, K.In base → base.Ns mainGlobals mg → FnG P w K mg base k fa fd [x] sp) (bind : ∀ (s : Shared) (u : Value), BindsTo s fd ⟨[u], []⟩ [(x, u)])
    (want : ∀ H : Hp, SqL K H a (ns.map V.int) → sp [.ref a] H (fun v _ => v = .bl true) fun _ _ _ => False) :
    codeAny (model P w) callerA (.call (.ref fa) ⟨[.ref a], []⟩) (fun r s' => r = .ok (.ret (.bool true)) ∧ OldK s₁.heap s'.heap ∧ s'.os = s₁.os ∧ AllBare s'.gens) s₁ := by
  have vals : Vals (ns.map V.int) vs := vals_of_ints n7
  have main : ∀ H : Hp, SqL K H a (ns.map V.int) → HOk P w H s₁.heap → (∀ b u, H b = some u → b = a ∧ K.lookup a = none ∧ ∃ o xs, u = .frz o (.lst xs)) →
      codeAny (model P w) callerA (.call (.ref fa) ⟨[.ref a], []⟩) (fun r s' => r = .ok (.ret (.bool true)) ∧ OldK s₁.heap s'.heap ∧ s'.os = s₁.os ∧ AllBare s'.gens) s₁ := by
    intro H list good lone
    have shown : ∀ {b : Addr} {o : Obj}, s₁.heap.get? b = some o → (∀ es ep, o.data = .dict es ep → H b = none) → (∃ es ep, o.data = .dict es ep) → (hidT s₁.heap H).get? b = some o := fun e n ⟨es, ep, d⟩ => hidT_get e (n es ep d)
    have dicts : ∀ {b : Addr} {o : Obj}, s₁.heap.get? b = some o → ∀ es ep, o.data = .dict es ep → H b = none := by
      intro b o e es ep d
      cases q : H b with
      | none => rfl
      | some u =>
        have eb := (lone b u q).1
        rw [eb, n6] at e
        cases e
        exact nomatch d
    have ns_ : ∀ {b : Addr} {m : Str → Option Value}, s₁.heap.Ns b m → (hidT s₁.heap H).Ns b m := by
      rintro b m ⟨o, es, ep, e, d, r⟩
      exact ⟨o, es, ep, shown e (dicts e) ⟨es, ep, d⟩, d, r⟩
    have kin : K.In (hidT s₁.heap H) := by
      intro b o e
      refine hidT_get (KX b o e) ?_
      cases q : H b with
      | none => rfl
      | some u =>
        obtain ⟨eb, n, _⟩ := lone b u q
        rw [eb, n] at e
        cases e
    have lim : (hidT s₁.heap H).NoLimit := by
      obtain ⟨mc, h1, h2⟩ := n4
      exact ⟨mc, ns_ h1, h2⟩
    have env : Env0 P w K mg (hidT s₁.heap H) callerA [] s₁ H := by
      refine ⟨rfl, ⟨kin, ns_ n1, ⟨mb, ns_ n2, n3⟩, lim⟩, fun _ _ e => of_hidT e, ?_, trivial, ?_, good, AllBare.of_eq n5⟩
      · rw [hidT_size]; exact Nat.le_refl _
      · intro b hb; exact nomatch hb
    refine codeAny_mono ((F _ kin (ns_ n1)).go callerA [] s₁ H ⟨[.ref a], []⟩ [.ref a] [.ref a] (fun v _ => v = .bl true) (fun _ _ _ => False) rfl n9 env (bind s₁ (.ref a)) (.cons rfl .nil) (want H list)) fun r s' ends => ?_
    match r, ends with
    | .error _, ends => exact ends.elim
    | .ok .next, ends => exact ends.elim
    | .ok .brk, ends => exact ends.elim
    | .ok .cont, ends => exact ends.elim
    | .ok (.ret u), ends =>
      obtain ⟨v, H', e1, e2, un, good', ru, rfl⟩ := ends
      cases ru
      refine ⟨rfl, OldK.of_keep fun b o e => ?_, e1, e2⟩
      cases q : H b with
      | none => exact un.keep b o e q (fun z => nomatch z) (fun z => nomatch z)
      | some u =>
        obtain ⟨_, _, ob, xs, rfl⟩ := lone b u q
        have h1 := (good b _ q).1
        have h2 := (good' b _ (un.frzs b ob _ q)).1
        exact h2.trans (h1.symm.trans e)
  cases hk : K.lookup a with
  | some o =>
    have e := KX a o hk
    rw [n6] at e
    cases e
    refine main (fun _ => none) (Or.inr ⟨_, vs.toArray, _, hk, rfl, rfl, rfl, ?_, ?_⟩) (fun _ _ z => nomatch z) (fun _ _ z => nomatch z)
    · rw [List.size_toArray, n7.length]; exact n8
    · rw [List.toList_toArray]; exact vals
  | none =>
    have at_a : (fun b => if b = a then some (HO.frz { cls := .type "list", data := .seq vs.toArray } (.lst (ns.map V.int))) else none) a = some (HO.frz { cls := .type "list", data := .seq vs.toArray } (.lst (ns.map V.int))) := if_pos rfl
    refine main (fun b => if b = a then some (HO.frz { cls := .type "list", data := .seq vs.toArray } (.lst (ns.map V.int))) else none) (Or.inl (Or.inr ⟨_, at_a⟩)) (fun b u z => ?_) (fun b u z => ?_)
    · by_cases hb : b = a
      · subst hb
        cases at_a.symm.trans z
        refine ⟨n6, ?_, vs, _, vals, n6⟩
        rw [List.length_map]; exact n8
      · exact nomatch (if_neg hb).symm.trans z
    · by_cases hb : b = a
      · subst hb
        cases at_a.symm.trans z
        exact ⟨rfl, hk, _, _, rfl⟩
      · exact nomatch (if_neg hb).symm.trans z
theorem walk_ofG {l : PySem.W.OpenLaw} {n k : Nat} {q : Program} {loose : List Str} {XP : (Str → Option Value) → Heap → Prop} {YP : World → Heap → Prop} {d : DefRec} {K : Params → PySem.W.Frag} {sp : World → Sp} {x : Str}
    (hn : l.most = some n) (hn2 : n ≤ sizeLine) (hdf : d.params.defaults = []) (hr : Room k callerA) (hY : ∀ (w : World) (h : Heap), YP w h → (K w.params).In h)
    (F : ∀ (w : World) (mg : Str → Option Value) (fa : Addr) (h : Heap), (K w.params).In h → h.Ns mainGlobals mg → mg d.name = some (.ref fa) → ∃ fd : FuncData, (∀ (s : Shared) (u : Value), BindsTo s fd ⟨[u], []⟩ [(x, u)]) ∧
        ∀ base : Heap, (K w.params).In base → base.Ns mainGlobals mg → FnG l.prog w (K w.params) mg base k fa fd [x] (sp w))
    (hsp : ∀ (w : World) (H : Hp) (a : Addr) (ns : List Int), ns.length ≤ n → SqL (K w.params) H a (ns.map V.int) → sp w [.ref a] H (fun v _ => v = .bl true) fun _ _ _ => False) :
    PySem.W.WalkO q loose XP YP l.row.toRowW d [] (fun f vs => PySem.call f vs) := by
  refine Att.attach_call hn hdf ?_
  intro w s₀ s₁ mg mb fa o pm cd doc a vs ns G Y ho hd hcd hmg hobj hints hlen hg
  obtain ⟨fd, hb, hF⟩ := F w mg fa _ (hY w _ Y) G.T.g hmg
  exact law_callG (hY w _ Y) G.T.g G.T.b G.T.builtins G.T.nolimit hg hobj hints (Nat.le_trans hlen hn2) hr hF hb (fun H hS => hsp w H a ns hlen hS)
/-! ### repr of a tuple or a list of ints -/
def rRepr (K : PySem.W.Frag) : List V → Hp → VK → Prop := fun xs H Q => ∃ (p : Addr) (d : PyData), xs = [.ref p] ∧ Dp K H (.ref p) d ∧ d.showable = true ∧ d.hasDict = false ∧ d.depth ≤ 100 ∧ d.shown.length ≤ sizeLine ∧ Q (.str d.shown) H
theorem call_repr {X : Cx} (gA : X.A.guards = some []) (hu : X.A.units + 101 < cLine) : CallR X (.builtin "repr") (rRepr X.K) := by
  intro pins s σ H xs us Q I r h
  obtain ⟨p, d, rfl, hd, h1, h2, h3, h4, q⟩ := h
  obtain ⟨u, rfl, ru⟩ := vals1 r
  cases ru
  obtain ⟨as, rd⟩ := Dp.reads I d _ _ hd rfl
  refine repr_of_reads' rd h1 (fun z => by rw [h2] at z; cases z) gA (by omega) (fun _ _ e => e) (fun h' u tk keep => ?_) h4
  exact ⟨.str _, H, I.kept keep, ⟨_, rfl⟩, q⟩
/-! ### what the top has written -/
def Dx (K : PySem.W.Frag) (x : Str) (st : Stmt) : Prop := ∃ (f : Addr) (oc : Value) (od an : Option Addr) (sl : Array (Option Value)) (kV dc pm cd ct : Value), PySem.W.nsIn K mainGlobals x = some (some (.ref f)) ∧
  K.lookup f = some ⟨oc, od, .func (PySem.W.fnOf x x (defArgs st) (defBody st) (defScope st) .none kV dc pm an cd ct), sl⟩ ∧ PySem.W.codeIn K cd x = true ∧ PySem.W.keepIn K (.ref f) = true
theorem dx_mk {K : PySem.W.Frag} {x : Str} {st : Stmt} {f : Addr} {oc : Value} {od an : Option Addr} {sl : Array (Option Value)} {kV dc pm cd ct : Value} (a : PySem.W.nsIn K mainGlobals x = some (some (.ref f)))
    (l : K.lookup f = some ⟨oc, od, .func (PySem.W.fnOf x x (defArgs st) (defBody st) (defScope st) .none kV dc pm an cd ct), sl⟩) (c : PySem.W.codeIn K cd x = true) (k : PySem.W.keepIn K (.ref f) = true) : Dx K x st := ⟨f, oc, od, an, sl, kV, dc, pm, cd, ct, a, l, c, k⟩
theorem Dx.fn {K : PySem.W.Frag} {x : Str} {st : Stmt} {h : Heap} {mg : Str → Option Value} (d : Dx K x st) (X : K.In h) (G : h.Ns mainGlobals mg) : ∃ f fd, Fun K x x st f fd ∧ mg x = some (.ref f) := by
  obtain ⟨f, oc, od, an, sl, kV, dc, pm, cd, ct, a, l, c, k⟩ := d
  exact ⟨f, _, fun_mk l c k, PySem.W.mg_of X G a⟩
structure Zs (K : PySem.W.Frag) : Prop where
  len : PySem.W.nsIn K mainGlobals "len" = some none
  list : PySem.W.nsIn K mainGlobals "list" = some none
  tuple : PySem.W.nsIn K mainGlobals "tuple" = some none
  range : PySem.W.nsIn K mainGlobals "range" = some none
  enumerate : PySem.W.nsIn K mainGlobals "enumerate" = some none
  all : PySem.W.nsIn K mainGlobals "all" = some none
  isinstance : PySem.W.nsIn K mainGlobals "isinstance" = some none
  zip : PySem.W.nsIn K mainGlobals "zip" = some none
  abs : PySem.W.nsIn K mainGlobals "abs" = some none
  int : PySem.W.nsIn K mainGlobals "int" = some none
  str : PySem.W.nsIn K mainGlobals "str" = some none
  bool : PySem.W.nsIn K mainGlobals "bool" = some none
  repr : PySem.W.nsIn K mainGlobals "repr" = some none
  set : PySem.W.nsIn K mainGlobals "set" = some none
  min : PySem.W.nsIn K mainGlobals "min" = some none
  max : PySem.W.nsIn K mainGlobals "max" = some none
  sorted : PySem.W.nsIn K mainGlobals "sorted" = some none
  sum : PySem.W.nsIn K mainGlobals "sum" = some none
theorem Zs.bi {K : PySem.W.Frag} {h : Heap} {mg : Str → Option Value} (z : Zs K) (X : K.In h) (G : h.Ns mainGlobals mg) : Bi mg := by
  constructor
  · exact PySem.W.mg_none_of X G z.len
  · exact PySem.W.mg_none_of X G z.list
  · exact PySem.W.mg_none_of X G z.tuple
  · exact PySem.W.mg_none_of X G z.range
  · exact PySem.W.mg_none_of X G z.enumerate
  · exact PySem.W.mg_none_of X G z.all
  · exact PySem.W.mg_none_of X G z.isinstance
  · exact PySem.W.mg_none_of X G z.zip
  · exact PySem.W.mg_none_of X G z.abs
  · exact PySem.W.mg_none_of X G z.int
  · exact PySem.W.mg_none_of X G z.str
  · exact PySem.W.mg_none_of X G z.bool
  · exact PySem.W.mg_none_of X G z.repr
  · exact PySem.W.mg_none_of X G z.set
  · exact PySem.W.mg_none_of X G z.min
  · exact PySem.W.mg_none_of X G z.max
  · exact PySem.W.mg_none_of X G z.sorted
  · exact PySem.W.mg_none_of X G z.sum
abbrev FnT (x : Str) (st : Stmt) (kV doc pm : Value) (an : Option Addr) (cdv ct : Value) : FuncData := PySem.W.fnOf x x (defArgs st) (defBody st) (defScope st) .none kV doc pm an cdv ct
section
variable {K : PySem.W.Frag} {x : Str} {st : Stmt} {f : Addr} {fd : FuncData} {p p' p'' : Str} (F : Fun K x x st f fd)
include F
theorem b1 (h : ∀ kV doc pm an cdv ct u, bindArgs (FnT x st kV doc pm an cdv ct) ⟨[u], []⟩ = pure [(p, u)]) : Binds K fd [p] [] :=
  F.binds fun kV doc pm an cdv ct us hl => match us, hl with | [u], _ => h kV doc pm an cdv ct u
theorem b2 (h : ∀ kV doc pm an cdv ct u v, bindArgs (FnT x st kV doc pm an cdv ct) ⟨[u, v], []⟩ = pure [(p, u), (p', v)]) : Binds K fd [p, p'] [] :=
  F.binds fun kV doc pm an cdv ct us hl => match us, hl with | [u, v], _ => h kV doc pm an cdv ct u v
theorem b3 (h : ∀ kV doc pm an cdv ct u v t, bindArgs (FnT x st kV doc pm an cdv ct) ⟨[u, v, t], []⟩ = pure [(p, u), (p', v), (p'', t)]) : Binds K fd [p, p', p''] [] :=
  F.binds fun kV doc pm an cdv ct us hl => match us, hl with | [u, v, t], _ => h kV doc pm an cdv ct u v t
theorem r1 (h : ∀ kV doc pm an cdv ct u, bindArgs (FnT x st kV doc pm an cdv ct) ⟨[], [(p, u)]⟩ = pure [(p, u)]) : KbR fd [p] :=
  Fun.kbr F fun kV doc pm an cdv ct us hl => match us, hl with | [u], _ => h kV doc pm an cdv ct u
theorem r2 (h : ∀ kV doc pm an cdv ct u v, bindArgs (FnT x st kV doc pm an cdv ct) ⟨[], [(p', u), (p, v)]⟩ = pure [(p, v), (p', u)]) : KbR fd [p, p'] :=
  Fun.kbr F fun kV doc pm an cdv ct us hl => match us, hl with | [u, v], _ => h kV doc pm an cdv ct u v
theorem r3 (h : ∀ kV doc pm an cdv ct u v t, bindArgs (FnT x st kV doc pm an cdv ct) ⟨[], [(p'', u), (p', v), (p, t)]⟩ = pure [(p, t), (p', v), (p'', u)]) : KbR fd [p, p', p''] :=
  Fun.kbr F fun kV doc pm an cdv ct us hl => match us, hl with | [u, v, t], _ => h kV doc pm an cdv ct u v t
end
structure CalG (P : Program) (w : World) (K : PySem.W.Frag) (mg : Str → Option Value) (base : Heap) (x : Str) (k : Nat) (ps : List Str) (sp : Sp) (f : Addr) (fd : FuncData) : Prop where
  ok : FnG P w K mg base k f fd ps sp
  g : mg x = some (.ref f)
  kp : PySem.W.keepIn K (.ref f) = true
  bd : Binds K fd ps []
theorem Cal.up {P : Program} {w : World} {K : PySem.W.Frag} {mg : Str → Option Value} {base : Heap} {x : Str} {j k : Nat} {ps : List Str} {sp : Sp} {f : Addr} {fd : FuncData} (c : Cal P w K mg base x j ps sp f fd) (h : j ≤ k) : Cal P w K mg base x k ps sp f fd := ⟨c.ok.mono h, c.g, c.kp, c.bd⟩
end Lp

namespace Lp
open PySem PySem.Spec PyProof.Rows L2
section
variable {P : Program} {w : World} {K : PySem.W.Frag} {mg : Str → Option Value} {base : Heap}
/-- a def by its data, where no repr is under way -/
theorem okDG {x qual : Str} {st : Stmt} {f : Addr} {fd : FuncData} {N ps : List Str} {k j : Nat} {p : DTS} {F : DSp} (G : Fun K x qual st f fd) (S : FnScope N ps (defScope st)) (hj : N.length = ps.length + j)
    (body : ∀ (cdv : Value) (A : Around) (outer : List PySem.Env) (s : Shared) (H : Hp) (E : XK), A.guards = some [] → Room k (A.deeper (envOfC qual (defScope st) s.heap.objs.size f cdv)) → ∃ t, PSs (cxOf CX0 P w K mg base N qual (defScope st) f cdv A outer s H E).nox (defBody st) t ∧ SS w t p)
    (h : ∀ args c Q, F args c Q → defF j p args c Q) : FnG P w K mg base (k + 1) f fd ps (spD ps.length F) := by
  refine okG G S (fun vs H Q E h => spD_len h) fun cdv A outer s H vs Q E gA hr q => ?_
  obtain ⟨t, ht, hs⟩ := body cdv A outer s H E gA hr
  exact ⟨t, ht, run_def hs hj (spD_imp h q)⟩
end
theorem FnOk.toG {P : Program} {w : World} {K : PySem.W.Frag} {mg : Str → Option Value} {base : Heap} {k : Nat} {f : Addr} {fd : FuncData} {ps : List Str} {sp : Sp} (h : FnOk P w K mg base CX0 k f fd ps sp) : FnG P w K mg base k f fd ps sp :=
  ⟨h.len, fun A outer s H args us vs Q E _ => h.run A outer s H args us vs Q E⟩
/-! ### repr -/
def φRepr (ds : List PyData) (Q : R → Prop) : Prop := match ds with
  | [d] => ((∃ es, PyData.its d = some es) ∧ d.showable = true ∧ d.hasDict = false ∧ d.depth ≤ 100 ∧ d.shown.length ≤ sizeLine) ∧ Q (.sh (.str d.shown))
  | _ => False
theorem rc_repr {K : PySem.W.Frag} : RCK (rRepr K) φRepr := by
  constructor
  · intro x A B hAB q
    unfold φRepr at q ⊢
    split at q
    · exact ⟨q.1, hAB _ q.2⟩
    · exact q.elim
  · intro L H xs ds Q s hx q
    unfold φRepr at q
    split at q
    · rename_i d
      obtain ⟨⟨⟨es, he⟩, h1, h2, h3, h4⟩, q⟩ := q
      cases hx with
      | cons a r =>
        cases r
        have dv := a.dv s
        have hr : ∃ p, ‹V› = .ref p := by
          cases dv <;> first | exact ⟨_, rfl⟩ | cases he
        obtain ⟨p, rfl⟩ := hr
        exact ⟨p, d, rfl, DV.dp _ _ dv, h1, h2, h3, h4, q _ L H (Ext.refl _ _ _) s (.str _)⟩
    · exact q.elim
theorem reprK {X : Cx} {K : PySem.W.Frag} (e : X.K = K) (gA : X.A.guards = some []) (hu : X.A.units + 101 < cLine) : CallR X (.builtin "repr") (rRepr K) := e ▸ call_repr gA hu
/-! ### repr of a tuple or a list of ints -/
def Small (ns : List Int) : Prop := ∀ z ∈ ns, z.natAbs < 1000000
theorem Low.small {n : Nat} {ns : List Int} (h : Low n ns) (hn : n ≤ 1000000) : Small ns := fun z hz => by
  have := h z hz
  omega
theorem small_log {z : Int} (h : z.natAbs < 1000000) : z.natAbs.log2 < 20 := by
  by_cases h0 : z.natAbs = 0
  · rw [h0]; decide
  · exact (Nat.log2_lt h0).mpr (Nat.lt_trans h (by decide))
theorem lay_ints : ∀ ns : List Int, PyData.canLayAll0 (dI ns) = true
  | [] => by simp [PyData.canLayAll0]
  | x :: r => by
    have := lay_ints r
    simp only [List.map_cons, PyData.canLayAll0, PyData.canLay0, this, Bool.and_self]
theorem depth_ints : ∀ ns : List Int, PyData.depthAll (dI ns) = 0
  | [] => by simp [PyData.depthAll]
  | x :: r => by
    have := depth_ints r
    simp only [List.map_cons, PyData.depthAll, PyData.depth, this]
    rfl
theorem shL (ns : List Int) : SeqAt.shaped (.list (dI ns)) = true := by
  unfold SeqAt.shaped
  simp only [PyData.canLay0, PyData.depth, lay_ints, depth_ints]
  decide
theorem shT (ns : List Int) : SeqAt.shaped (.tuple (dI ns)) = true := by
  unfold SeqAt.shaped
  simp only [PyData.canLay0, PyData.depth, lay_ints, depth_ints]
  decide
theorem eqv_ints : ∀ a b : List Int, PyData.eqvAll (dI a) (dI b) = decide (a = b)
  | [], [] => by simp [PyData.eqvAll]
  | [], _ :: _ => by simp [PyData.eqvAll]
  | _ :: _, [] => by simp [PyData.eqvAll]
  | x :: r, y :: t => by
    have ih := eqv_ints r t
    simp only [List.map_cons, PyData.eqvAll, PyData.eqv, ih]
    by_cases h : x = y
    · subst h
      by_cases h2 : r = t
      · subst h2; simp
      · simp [h2]
    · simp [h]
theorem eqvL (a b : List Int) : PyData.eqv (.list (dI a)) (.list (dI b)) = decide (a = b) := by
  simp only [PyData.eqv]; exact eqv_ints a b
theorem eqvT (a b : List Int) : PyData.eqv (.tuple (dI a)) (.tuple (dI b)) = decide (a = b) := by
  simp only [PyData.eqv]; exact eqv_ints a b
theorem ints_facts : ∀ ns : List Int, Small ns → PyData.showableAll (dI ns) = true ∧ PyData.hasDictAll (dI ns) = false ∧ PyData.weightAll (dI ns) ≤ 30 * ns.length ∧ PyData.intsShortAll 13 (dI ns) = true
  | [], _ => by simp [PyData.showableAll, PyData.hasDictAll, PyData.weightAll, PyData.intsShortAll]
  | z :: r, h => by
    obtain ⟨h1, h2, h3, h4⟩ := ints_facts r fun y hy => h y (List.mem_cons_of_mem _ hy)
    have hz := h z List.mem_cons_self
    have lg := small_log hz
    refine ⟨?_, ?_, ?_, ?_⟩
    · simp only [List.map_cons, PyData.showableAll, PyData.showable, h1, Bool.and_true, decide_eq_true_eq]
      omega
    · simp only [List.map_cons, PyData.hasDictAll, PyData.hasDict, h2, Bool.or_false]
    · simp only [List.map_cons, PyData.weightAll, PyData.weight, List.length_cons]
      have h3' : PyData.weightAll (List.map PyData.int r) ≤ 30 * r.length := h3
      split <;> omega
    · simp only [List.map_cons, PyData.intsShortAll, PyData.intsShort, h4, Bool.and_true, decide_eq_true_eq]
      have e : (PyData.shown (.int z)) = Str.ofString (toString z) := by simp only [PyData.shown]
      rw [e, PySem.ofString_length]
      have := int_text_length_le10 (a := z) (k := 6) (by decide) hz
      omega
theorem shownT {ns : List Int} (h : Small ns) (hl : ns.length ≤ 10000) : (PyData.shown (.tuple (dI ns))).length ≤ sizeLine := by
  obtain ⟨h1, h2, h3, h4⟩ := ints_facts ns h
  refine Nat.le_trans (shown_le13 (d := .tuple (dI ns)) ?_ ?_) (by decide)
  · unfold PyData.layable0
    simp only [PyData.canLay0, PyData.depth, PyData.weight, lay_ints, depth_ints, Bool.true_and, Bool.and_eq_true, decide_eq_true_eq]
    have h5 : PyData.weightAll (dI ns) ≤ 1048576 := by omega
    exact ⟨by decide, decide_eq_true h5⟩
  · simp only [PyData.intsShort]; exact h4
theorem shownL {ns : List Int} (h : Small ns) (hl : ns.length ≤ 10000) : (PyData.shown (.list (dI ns))).length ≤ sizeLine := by
  obtain ⟨h1, h2, h3, h4⟩ := ints_facts ns h
  refine Nat.le_trans (shown_le13 (d := .list (dI ns)) ?_ ?_) (by decide)
  · unfold PyData.layable0
    simp only [PyData.canLay0, PyData.depth, PyData.weight, lay_ints, depth_ints, Bool.true_and, Bool.and_eq_true, decide_eq_true_eq]
    have h5 : PyData.weightAll (dI ns) ≤ 1048576 := by omega
    exact ⟨by decide, decide_eq_true h5⟩
  · simp only [PyData.intsShort]; exact h4
theorem factsT {ns : List Int} (h : Small ns) (hl : ns.length ≤ 10000) : (PyData.tuple (dI ns)).showable = true ∧ (PyData.tuple (dI ns)).hasDict = false ∧ (PyData.tuple (dI ns)).depth ≤ 100 ∧ (PyData.tuple (dI ns)).shown.length ≤ sizeLine := by
  obtain ⟨h1, h2, h3, h4⟩ := ints_facts ns h
  refine ⟨?_, ?_, ?_, shownT h hl⟩
  · simp only [PyData.showable]; exact h1
  · simp only [PyData.hasDict]; exact h2
  · simp only [PyData.depth, depth_ints]; decide
theorem factsL {ns : List Int} (h : Small ns) (hl : ns.length ≤ 10000) : (PyData.list (dI ns)).showable = true ∧ (PyData.list (dI ns)).hasDict = false ∧ (PyData.list (dI ns)).depth ≤ 100 ∧ (PyData.list (dI ns)).shown.length ≤ sizeLine := by
  obtain ⟨h1, h2, h3, h4⟩ := ints_facts ns h
  refine ⟨?_, ?_, ?_, shownL h hl⟩
  · simp only [PyData.showable]; exact h1
  · simp only [PyData.hasDict]; exact h2
  · simp only [PyData.depth, depth_ints]; decide
theorem φRepr_sq {b : Bool} {d : PyData} {ns : List Int} {Q : R → Prop} (hd : PyData.its d = some (dI ns)) (h : Small ns) (hl : ns.length ≤ 10000) (q : Q (.sh (.str d.shown))) : φRepr [d] Q := by
  cases d with
  | list es => cases hd; exact ⟨⟨⟨_, rfl⟩, factsL h hl⟩, q⟩
  | tuple es => cases hd; exact ⟨⟨⟨_, rfl⟩, factsT h hl⟩, q⟩
  | _ => cases hd
end Lp

namespace Lp
open PySem PySem.Spec PyProof.Rows L2
/-! ### calls, as functions of lists -/
def gt (ns : List Int) (i : Int) : Int := ns.getD i.toNat 0
def call1 (ns : List Int) (w : Int) : List Int := ns.set w.toNat (gt ns (gt ns w))
def callAll (ns ws : List Int) : List Int := ws.foldl call1 ns
theorem call1_len (ns : List Int) (w : Int) : (call1 ns w).length = ns.length := by unfold call1; rw [List.length_set]
theorem callAll_len : ∀ (ws ns : List Int), (callAll ns ws).length = ns.length
  | [], _ => rfl
  | w :: ws, ns => by
    show (callAll (call1 ns w) ws).length = ns.length
    rw [callAll_len ws, call1_len]
theorem gt_get {ns : List Int} {i : Int} (h0 : 0 ≤ i) (h1 : i < (ns.length : Int)) : ns[i.toNat]? = some (gt ns i) := by
  unfold gt
  have hl : i.toNat < ns.length := by omega
  rw [List.getD_eq_getElem?_getD, List.getElem?_eq_getElem hl]; rfl
theorem gt_low {n : Nat} {ns : List Int} {i : Int} (h : Low n ns) (h0 : 0 ≤ i) (h1 : i < (ns.length : Int)) : 0 ≤ gt ns i ∧ gt ns i < (n : Int) := h.at (gt_get h0 h1)
theorem call1_low {n : Nat} {ns : List Int} {w : Int} (h : Low n ns) (hn : ns.length = n) (h0 : 0 ≤ w) (h1 : w < (n : Int)) : Low n (call1 ns w) := by
  have a := gt_low h h0 (by omega)
  have b := gt_low h a.1 (by omega)
  exact h.set b.1 b.2
theorem callAll_low {n : Nat} : ∀ (ws ns : List Int), Low n ns → ns.length = n → Low n ws → Low n (callAll ns ws)
  | [], _, h, _, _ => h
  | w :: ws, ns, h, hn, hw => by
    have q := hw w (List.mem_cons_self)
    exact callAll_low ws (call1 ns w) (call1_low h hn q.1 q.2) (by rw [call1_len]; exact hn) fun z hz => hw z (List.mem_cons_of_mem _ hz)
theorem callAll_snoc (ns ws : List Int) (w : Int) : callAll ns (ws ++ [w]) = call1 (callAll ns ws) w := by
  unfold callAll; rw [List.foldl_append]; rfl
theorem take_snoc {ws : List Int} {i : Nat} (h : i < ws.length) : ws.take (i + 1) = ws.take i ++ [ws[i]] := by
  rw [List.take_add_one, List.getElem?_eq_getElem h]; rfl
theorem callAll_step (ns : List Int) {ws : List Int} {i : Nat} (h : i < ws.length) : callAll ns (ws.take (i + 1)) = call1 (callAll ns (ws.take i)) ws[i] := by
  rw [take_snoc h, callAll_snoc]
theorem Low.take {n : Nat} {ws : List Int} (h : Low n ws) (i : Nat) : Low n (ws.take i) := fun z hz => h z (List.mem_of_mem_take hz)
/-! ### idle calls -/
def idleB (ns ws : List Int) (i : Nat) : Bool := decide (callAll ns (ws.take i) = callAll ns (ws.take (i + 1)))
def idleN (ns ws : List Int) (m : Nat) : List Int := ((List.range m).filter (idleB ns ws)).map Int.ofNat
def idleL (ns ws : List Int) : List Int := idleN ns ws ws.length
theorem idleN_succ (ns ws : List Int) (m : Nat) : idleN ns ws (m + 1) = if idleB ns ws m then idleN ns ws m ++ [(m : Int)] else idleN ns ws m := by
  unfold idleN
  rw [List.range_succ, List.filter_append]
  by_cases h : idleB ns ws m = true
  · rw [if_pos h, List.filter_cons_of_pos h, List.map_append]; rfl
  · rw [if_neg h, List.filter_cons_of_neg h, List.filter_nil, List.append_nil]
theorem idleN_len (ns ws : List Int) (m : Nat) : (idleN ns ws m).length ≤ m := by
  unfold idleN
  rw [List.length_map]
  exact Nat.le_trans (List.length_filter_le _ _) (by rw [List.length_range]; exact Nat.le_refl m)
theorem idleN_mem {ns ws : List Int} {m i : Nat} : (i : Int) ∈ idleN ns ws m ↔ i < m ∧ idleB ns ws i = true := by
  unfold idleN
  constructor
  · intro h
    obtain ⟨j, hj, e⟩ := List.mem_map.mp h
    have : j = i := Int.ofNat.inj e
    subst this
    have := List.mem_filter.mp hj
    exact ⟨List.mem_range.mp this.1, this.2⟩
  · rintro ⟨h1, h2⟩
    exact List.mem_map.mpr ⟨i, List.mem_filter.mpr ⟨List.mem_range.mpr h1, h2⟩, rfl⟩
/-- a call changes nothing exactly if the person points at a root -/
theorem call1_idle {ns : List Int} {w : Int} (h0 : 0 ≤ w) (h1 : w < (ns.length : Int)) : call1 ns w = ns ↔ gt ns (gt ns w) = gt ns w := by
  have g := gt_get h0 h1
  have hl : w.toNat < ns.length := by omega
  unfold call1
  constructor
  · intro e
    have e2 : (ns.set w.toNat (gt ns (gt ns w)))[w.toNat]? = some (gt ns (gt ns w)) := List.getElem?_set_self hl
    rw [e, g] at e2
    exact (Option.some.inj e2).symm
  · intro e
    rw [e]
    apply List.ext_getElem?
    intro i
    by_cases hi : w.toNat = i
    · subst hi
      rw [List.getElem?_set_self hl, g]
    · rw [List.getElem?_set_ne hi]
theorem idleB_step {ns ws : List Int} {i : Nat} (h : i < ws.length) (lo : Low ns.length ns) (lw : Low ns.length ws) :
    idleB ns ws i = decide (gt (callAll ns (ws.take i)) (gt (callAll ns (ws.take i)) ws[i]) = gt (callAll ns (ws.take i)) ws[i]) := by
  unfold idleB
  have z := lw.at (List.getElem?_eq_getElem h)
  have len : (callAll ns (ws.take i)).length = ns.length := callAll_len _ _
  have := call1_idle (ns := callAll ns (ws.take i)) (w := ws[i]) z.1 (by omega)
  rw [callAll_step ns h]
  by_cases q : call1 (callAll ns (ws.take i)) ws[i] = callAll ns (ws.take i)
  · rw [decide_eq_true q.symm, decide_eq_true (this.mp q)]
  · rw [decide_eq_false fun e => q e.symm, decide_eq_false fun e => q (this.mpr e)]
/-- the word without its idle calls -/
def restN (ns ws : List Int) : Nat → List Int
  | 0 => []
  | m + 1 => if idleB ns ws m then restN ns ws m else restN ns ws m ++ [ws.getD m 0]
theorem getD_at {ws : List Int} {m : Nat} (h : m < ws.length) : ws.getD m 0 = ws[m] := by
  rw [List.getD_eq_getElem?_getD, List.getElem?_eq_getElem h]; rfl
theorem rest_low {n : Nat} {ns ws : List Int} (lw : Low n ws) : ∀ m, m ≤ ws.length → Low n (restN ns ws m)
  | 0, _ => fun z h => nomatch h
  | m + 1, h => by
    unfold restN
    split
    · exact rest_low lw m (by omega)
    · have z := lw.at (List.getElem?_eq_getElem (show m < ws.length by omega))
      rw [getD_at (by omega)]
      exact (rest_low lw m (by omega)).app z.1 z.2
theorem rest_len (ns ws : List Int) : ∀ m, (restN ns ws m).length ≤ m
  | 0 => Nat.le_refl 0
  | m + 1 => by
    have := rest_len ns ws m
    unfold restN
    split
    · omega
    · rw [List.length_append]; show _ + 1 ≤ _; omega
theorem rest_all (ns ws : List Int) : ∀ m, m ≤ ws.length → callAll ns (restN ns ws m) = callAll ns (ws.take m)
  | 0, _ => by rw [List.take_zero]; rfl
  | m + 1, h => by
    have ih := rest_all ns ws m (by omega)
    unfold restN
    by_cases q : idleB ns ws m = true
    · rw [if_pos q, ih]
      exact of_decide_eq_true q
    · rw [if_neg q, callAll_snoc, ih, callAll_step ns (show m < ws.length by omega), getD_at (by omega)]
theorem rest_busy (ns ws : List Int) : ∀ m, m ≤ ws.length → ∀ j, j < (restN ns ws m).length → callAll ns ((restN ns ws m).take j) ≠ callAll ns ((restN ns ws m).take (j + 1))
  | 0, _, j, h => by simp [restN] at h
  | m + 1, h, j, hj => by
    have ih := rest_busy ns ws m (by omega)
    unfold restN at hj ⊢
    by_cases q : idleB ns ws m = true
    · rw [if_pos q] at hj ⊢
      exact ih j hj
    · rw [if_neg q] at hj ⊢
      rw [List.length_append] at hj
      have hj' : j < (restN ns ws m).length + 1 := hj
      by_cases hlt : j < (restN ns ws m).length
      · rw [List.take_append_of_le_length (by omega), List.take_append_of_le_length (by omega)]
        exact ih j hlt
      · have e : j = (restN ns ws m).length := by omega
        subst e
        rw [List.take_append_of_le_length (Nat.le_refl _), List.take_length]
        have e2 : (restN ns ws m ++ [ws.getD m 0]).take ((restN ns ws m).length + 1) = restN ns ws m ++ [ws.getD m 0] := List.take_of_length_le (by rw [List.length_append]; exact Nat.le_refl _)
        rw [e2, callAll_snoc, rest_all ns ws m (by omega), getD_at (by omega), ← callAll_step ns (show m < ws.length by omega)]
        intro z
        exact q (decide_eq_true z)
theorem rest_idle (ns ws : List Int) : idleL ns (restN ns ws ws.length) = [] := by
  unfold idleL idleN
  rw [List.filter_eq_nil_iff.mpr]
  · rfl
  · intro j hj
    have := rest_busy ns ws ws.length (Nat.le_refl _) j (List.mem_range.mp hj)
    intro z
    exact this (of_decide_eq_true z)

/-! ### following pointers -/
def itr (ns : List Int) (p : Int) : Nat → Int
  | 0 => p
  | k + 1 => gt ns (itr ns p k)
theorem itr_succ (ns : List Int) (p : Int) : ∀ k, itr ns p (k + 1) = itr ns (gt ns p) k
  | 0 => rfl
  | k + 1 => by
    show gt ns (itr ns p (k + 1)) = gt ns (itr ns (gt ns p) k)
    rw [itr_succ ns p k]
theorem itr_low {ns : List Int} (lo : Low ns.length ns) {p : Int} (h0 : 0 ≤ p) (h1 : p < (ns.length : Int)) : ∀ k, 0 ≤ itr ns p k ∧ itr ns p k < (ns.length : Int)
  | 0 => ⟨h0, h1⟩
  | k + 1 => by
    have ih := itr_low lo h0 h1 k
    exact gt_low lo ih.1 ih.2
def itrs (ns : List Int) (p : Int) (m : Nat) : List Int := (List.range m).map (itr ns p)
theorem itrs_len (ns : List Int) (p : Int) (m : Nat) : (itrs ns p m).length = m := by unfold itrs; rw [List.length_map, List.length_range]
theorem itrs_succ (ns : List Int) (p : Int) (m : Nat) : itrs ns p (m + 1) = itrs ns p m ++ [itr ns p m] := by
  unfold itrs; rw [List.range_succ, List.map_append]; rfl
theorem itrs_get {ns : List Int} {p : Int} {m i : Nat} (h : i < m) : (itrs ns p m)[i]? = some (itr ns p i) := by
  unfold itrs
  rw [List.getElem?_map, List.getElem?_range h]; rfl
theorem itrs_mem {ns : List Int} {p z : Int} {m : Nat} : z ∈ itrs ns p m ↔ ∃ i, i < m ∧ itr ns p i = z := by
  unfold itrs
  rw [List.mem_map]
  constructor
  · rintro ⟨i, hi, e⟩; exact ⟨i, List.mem_range.mp hi, e⟩
  · rintro ⟨i, hi, e⟩; exact ⟨i, List.mem_range.mpr hi, e⟩
/-- rs: the people met from p on, each once -/
def Route (ns : List Int) (p : Int) (rs : List Int) : Prop := ∃ L, rs = itrs ns p L ∧ rs.Nodup ∧ itr ns p L ∈ rs
theorem itrs_apart {ns : List Int} {p : Int} {m i j : Nat} (nd : (itrs ns p m).Nodup) (hi : i < m) (hj : j < m) (e : itr ns p i = itr ns p j) : i = j := by
  have h1 := itrs_get (ns := ns) (p := p) hi
  have h2 := itrs_get (ns := ns) (p := p) hj
  rw [e] at h1
  exact nd_ix nd h1 h2
theorem Route.eq {ns : List Int} {p : Int} {rs rs' : List Int} (a : Route ns p rs) (b : Route ns p rs') : rs = rs' := by
  obtain ⟨L, rfl, n1, m1⟩ := a
  obtain ⟨M, rfl, n2, m2⟩ := b
  obtain ⟨i, hi, ei⟩ := itrs_mem.mp m1
  obtain ⟨j, hj, ej⟩ := itrs_mem.mp m2
  rcases Nat.lt_trichotomy L M with h | h | h
  · exact absurd (itrs_apart n2 (show i < M by omega) h ei) (by omega)
  · rw [h]
  · exact absurd (itrs_apart n1 (show j < L by omega) h ej) (by omega)
theorem Nodup.snoc {l : List Int} {z : Int} (h : l.Nodup) (n : z ∉ l) : (l ++ [z]).Nodup := by
  rw [List.nodup_append]
  refine ⟨h, List.nodup_cons.mpr ⟨List.not_mem_nil, List.nodup_nil⟩, fun a ha b hb => ?_⟩
  rw [List.mem_singleton] at hb
  subst hb
  exact fun e => n (e ▸ ha)
theorem low_len : ∀ (n : Nat) (l : List Int), l.Nodup → Low n l → l.length ≤ n
  | 0, l, _, h => by
    cases l with
    | nil => exact Nat.le_refl 0
    | cons x r => have := h x List.mem_cons_self; omega
  | n + 1, l, nd, h => by
    have h2 := low_len n (l.filter (fun z => decide (z ≠ (n : Int)))) (nd.filter _) fun z hz => by
      have q := List.mem_filter.mp hz
      have := h z q.1
      have := of_decide_eq_true q.2
      omega
    have h3 : l.length ≤ (l.filter (fun z => decide (z ≠ (n : Int)))).length + 1 := by
      clear h h2
      induction l with
      | nil => simp
      | cons x r ih =>
        have nd' := List.nodup_cons.mp nd
        by_cases hx : x = (n : Int)
        · have e : r.filter (fun z => decide (z ≠ (n : Int))) = r := List.filter_eq_self.mpr fun z hz => decide_eq_true fun e => nd'.1 (by rw [hx, ← e]; exact hz)
          rw [List.filter_cons_of_neg (by simp [hx]), e]; exact Nat.le_refl _
        · rw [List.filter_cons_of_pos (by simp [hx]), List.length_cons, List.length_cons]
          have := ih nd'.2
          omega
    omega
/-- behind the first return the pointers go round -/
theorem itr_round {ns : List Int} {p : Int} {b d : Nat} (h : itr ns p (b + d) = itr ns p b) : ∀ t, itr ns p (b + d + t) = itr ns p (b + t)
  | 0 => h
  | t + 1 => by
    show gt ns (itr ns p (b + d + t)) = gt ns (itr ns p (b + t))
    rw [itr_round h t]
theorem itr_mod {ns : List Int} {p : Int} {b d : Nat} (hd : 0 < d) (h : itr ns p (b + d) = itr ns p b) (t : Nat) : itr ns p (b + t) = itr ns p (b + t % d) := by
  induction t using Nat.strongRecOn with
  | ind t ih =>
    by_cases ht : t < d
    · rw [Nat.mod_eq_of_lt ht]
    · have e : t = d + (t - d) := by omega
      have := ih (t - d) (by omega)
      rw [e, ← Nat.add_assoc, itr_round h, this, Nat.add_mod_left]
/-! ### rings, as functions of lists -/
def routeG (ns : List Int) : Nat → List Int → Int → List Int
  | 0, acc, _ => acc
  | k + 1, acc, at_ => if at_ ∈ acc then acc else routeG ns k (acc ++ [at_]) (gt ns at_)
def routeF (ns : List Int) (p : Int) : List Int := routeG ns (ns.length + 1) [] p
theorem routeG_ok {ns : List Int} (lo : Low ns.length ns) {p : Int} (p0 : 0 ≤ p) (p1 : p < (ns.length : Int)) : ∀ (k L : Nat), (itrs ns p L).Nodup → ns.length < k + L → Route ns p (routeG ns k (itrs ns p L) (itr ns p L))
  | 0, L, nd, h => by
    have := low_len ns.length _ nd fun z hz => by
      obtain ⟨i, _, ei⟩ := itrs_mem.mp hz
      have := itr_low lo p0 p1 i
      omega
    rw [itrs_len] at this
    omega
  | k + 1, L, nd, h => by
    unfold routeG
    by_cases hm : itr ns p L ∈ itrs ns p L
    · rw [if_pos hm]
      exact ⟨L, rfl, nd, hm⟩
    · rw [if_neg hm, ← itrs_succ]
      exact routeG_ok lo p0 p1 k (L + 1) (by rw [itrs_succ]; exact Nodup.snoc nd hm) (by omega)
theorem routeF_ok {ns : List Int} (lo : Low ns.length ns) {p : Int} (p0 : 0 ≤ p) (p1 : p < (ns.length : Int)) : Route ns p (routeF ns p) := routeG_ok lo p0 p1 (ns.length + 1) 0 List.nodup_nil (by omega)
def beginF (ns rs : List Int) : Nat := rs.idxOf (gt ns (rs.getLastD 0))
def minF : List Int → Int
  | [] => 0
  | x :: r => r.foldl (fun a b => if b < a then b else a) x
theorem fold_min : ∀ (r : List Int) (x : Int), (r.foldl (fun a b => if b < a then b else a) x = x ∨ r.foldl (fun a b => if b < a then b else a) x ∈ r) ∧ r.foldl (fun a b => if b < a then b else a) x ≤ x ∧ ∀ y ∈ r, r.foldl (fun a b => if b < a then b else a) x ≤ y
  | [], x => ⟨.inl rfl, Int.le_refl x, fun y h => nomatch h⟩
  | z :: r, x => by
    have ih := fold_min r (if z < x then z else x)
    show (r.foldl _ (if z < x then z else x) = x ∨ _) ∧ _
    refine ⟨?_, ?_, ?_⟩
    · rcases ih.1 with h | h
      · by_cases q : z < x
        · right
          show r.foldl _ (if z < x then z else x) ∈ z :: r
          rw [h, if_pos q]; exact List.mem_cons_self
        · left
          show r.foldl _ (if z < x then z else x) = x
          rw [h, if_neg q]
      · right; exact List.mem_cons_of_mem _ h
    · show r.foldl _ (if z < x then z else x) ≤ x
      have := ih.2.1
      split at this <;> rename_i q
      · rw [if_pos q]; omega
      · rw [if_neg q]; exact this
    · intro y hy
      show r.foldl _ (if z < x then z else x) ≤ y
      rcases List.mem_cons.mp hy with h | h
      · have := ih.2.1
        split at this <;> rename_i q
        · rw [if_pos q, h]; exact this
        · rw [if_neg q, h]; omega
      · exact ih.2.2 y h
theorem minF_ok {ms : List Int} (h : ms ≠ []) : minF ms ∈ ms ∧ ∀ y ∈ ms, minF ms ≤ y := by
  cases ms with
  | nil => exact absurd rfl h
  | cons x r =>
    have := fold_min r x
    refine ⟨?_, fun y hy => ?_⟩
    · rcases this.1 with e | e
      · show r.foldl _ x ∈ x :: r
        rw [e]; exact List.mem_cons_self
      · exact List.mem_cons_of_mem _ e
    · rcases List.mem_cons.mp hy with e | e
      · rw [e]; exact this.2.1
      · exact this.2.2 y e
/-- the list, turned so that its least member is the first -/
def turnF (ms : List Int) : List Int := ms.drop (ms.idxOf (minF ms)) ++ ms.take (ms.idxOf (minF ms))
def ringF (ns : List Int) (p : Int) : List Int := turnF ((routeF ns p).drop (beginF ns (routeF ns p)))
def heightF (ns : List Int) (p : Int) : Nat := beginF ns (routeF ns p)
theorem turnF_ne {ms : List Int} (h : ms ≠ []) : turnF ms ≠ [] := by
  intro e
  have := congrArg List.length e
  unfold turnF at this
  rw [List.length_append, List.length_drop, List.length_take, List.length_nil] at this
  have : ms.length = 0 := by omega
  exact h (List.eq_nil_of_length_eq_zero this)
/-- how a whole route begins its ring -/
theorem begin_at {ns : List Int} {p : Int} {L : Nat} (nd : (itrs ns p L).Nodup) (hin : itr ns p L ∈ itrs ns p L) {b : Nat} (hb : b < L) (eb : itr ns p b = itr ns p L) : beginF ns (itrs ns p L) = b := by
  obtain ⟨M, rfl⟩ : ∃ M, L = M + 1 := ⟨L - 1, by omega⟩
  unfold beginF
  have e : (itrs ns p (M + 1)).getLastD 0 = itr ns p M := by rw [itrs_succ]; simp
  rw [e]
  have hin' : gt ns (itr ns p M) ∈ itrs ns p (M + 1) := hin
  have h1 := idx_get hin'
  have hl := List.idxOf_lt_length_of_mem hin'
  rw [itrs_len] at hl
  rw [itrs_get hl] at h1
  exact itrs_apart nd hl hb ((Option.some.inj h1).trans eb.symm)
theorem lex_uniq : ∀ (a b : List (List Int)), a.Nodup → b.Nodup → a.Pairwise (fun x y => HT.lexLt y x = false) → b.Pairwise (fun x y => HT.lexLt y x = false) → (∀ k, k ∈ a ↔ k ∈ b) → a = b
  | [], [], _, _, _, _, _ => rfl
  | [], y :: _, _, _, _, _, h => nomatch (h y).mpr List.mem_cons_self
  | x :: _, [], _, _, _, _, h => nomatch (h x).mp List.mem_cons_self
  | x :: a, y :: b, na, nb, pa, pb, h => by
    have qa := List.pairwise_cons.mp pa
    have qb := List.pairwise_cons.mp pb
    have ra := List.nodup_cons.mp na
    have rb := List.nodup_cons.mp nb
    have e : x = y := by
      rcases List.mem_cons.mp ((h x).mp List.mem_cons_self) with e | e
      · exact e
      · rcases List.mem_cons.mp ((h y).mpr List.mem_cons_self) with e2 | e2
        · exact e2.symm
        · exact lex_eq x y (qb.1 x e) (qa.1 y e2)
    subst e
    have h2 : ∀ k, k ∈ a ↔ k ∈ b := fun k => by
      constructor
      · intro hk
        rcases List.mem_cons.mp ((h k).mp (List.mem_cons_of_mem _ hk)) with z | z
        · exact absurd (z ▸ hk) ra.1
        · exact z
      · intro hk
        rcases List.mem_cons.mp ((h k).mpr (List.mem_cons_of_mem _ hk)) with z | z
        · exact absurd (z ▸ hk) rb.1
        · exact z
    rw [lex_uniq a b ra.2 rb.2 qa.2 qb.2 h2]
/-- RS: all rings, ascending -/
def RingsOf (ns : List Int) (RS : List (List Int)) : Prop := RS.Nodup ∧ RS.Pairwise (fun x y => HT.lexLt y x = false) ∧ ∀ k, k ∈ RS ↔ ∃ j : Nat, j < ns.length ∧ ringF ns (j : Int) = k
theorem RingsOf.eq {ns : List Int} {a b : List (List Int)} (x : RingsOf ns a) (y : RingsOf ns b) : a = b := lex_uniq a b x.1 y.1 x.2.1 y.2.1 fun k => (x.2.2 k).trans (y.2.2 k).symm

/-! ### the theory of rings -/
theorem itr_add (ns : List Int) (p : Int) (a : Nat) : ∀ b, itr ns p (a + b) = itr ns (itr ns p a) b
  | 0 => rfl
  | b + 1 => congrArg (gt ns) (itr_add ns p a b)
theorem itrs_cat (ns : List Int) (p : Int) (a : Nat) : ∀ b, itrs ns p (a + b) = itrs ns p a ++ itrs ns (itr ns p a) b
  | 0 => (List.append_nil _).symm
  | b + 1 => by
    rw [← Nat.add_assoc, itrs_succ, itrs_cat ns p a b, itrs_succ, itr_add, List.append_assoc]
def Cyc (ns : List Int) (q : Int) (c : Nat) : Prop := 0 < c ∧ itr ns q c = q ∧ (itrs ns q c).Nodup
theorem Cyc.cut {ns : List Int} {q : Int} {c j : Nat} (h : j ≤ c) : (itrs ns q c).drop j = itrs ns (itr ns q j) (c - j) ∧ (itrs ns q c).take j = itrs ns q j := by
  obtain ⟨d, rfl⟩ : ∃ d, c = j + d := ⟨c - j, by omega⟩
  rw [itrs_cat, Nat.add_sub_cancel_left]
  have l := itrs_len ns q j
  constructor
  · conv => lhs; arg 1; rw [← l]
    rw [List.drop_left]
  · conv => lhs; arg 1; rw [← l]
    rw [List.take_left]
theorem Cyc.turn {ns : List Int} {q : Int} {c j : Nat} (x : Cyc ns q c) (h : j ≤ c) : itrs ns (itr ns q j) c = (itrs ns q c).drop j ++ (itrs ns q c).take j := by
  rw [(Cyc.cut h).1, (Cyc.cut h).2]
  have e : itrs ns (itr ns q j) c = itrs ns (itr ns q j) ((c - j) + j) := by congr 1; omega
  rw [e, itrs_cat, ← itr_add]
  have e2 : j + (c - j) = c := by omega
  rw [e2, x.2.1]
theorem Cyc.all {ns : List Int} {q : Int} {c : Nat} (x : Cyc ns q c) (t : Nat) : itr ns q t ∈ itrs ns q c := by
  have := itr_mod (ns := ns) (p := q) (b := 0) (d := c) x.1 (by rw [Nat.zero_add]; exact x.2.1) t
  rw [Nat.zero_add, Nat.zero_add] at this
  rw [this]
  exact itrs_mem.mpr ⟨t % c, Nat.mod_lt _ x.1, rfl⟩
theorem Cyc.at {ns : List Int} {q z : Int} {c : Nat} (x : Cyc ns q c) (h : z ∈ itrs ns q c) : Cyc ns z c ∧ ∀ y, y ∈ itrs ns z c ↔ y ∈ itrs ns q c := by
  obtain ⟨j, hj, rfl⟩ := itrs_mem.mp h
  have t := x.turn (j := j) (by omega)
  have pm : (itrs ns (itr ns q j) c).Perm (itrs ns q c) := by
    rw [t]
    have := List.perm_append_comm (l₁ := (itrs ns q c).drop j) (l₂ := (itrs ns q c).take j)
    rw [List.take_append_drop] at this
    exact this
  refine ⟨⟨x.1, ?_, pm.nodup_iff.mpr x.2.2⟩, fun y => pm.mem_iff⟩
  rw [← itr_add, Nat.add_comm, itr_add, x.2.1]
theorem Cyc.uniq {ns : List Int} {z : Int} {c d : Nat} (x : Cyc ns z c) (y : Cyc ns z d) : c = d := by
  rcases Nat.lt_trichotomy c d with h | h | h
  · have := itrs_apart y.2.2 (i := 0) (j := c) y.1 h x.2.1.symm
    have := x.1; omega
  · exact h
  · have := itrs_apart x.2.2 (i := 0) (j := d) x.1 h y.2.1.symm
    have := y.1; omega
theorem itrs_ne {ns : List Int} {q : Int} {c : Nat} (h : 0 < c) : itrs ns q c ≠ [] := fun e => by
  have := itrs_len ns q c
  rw [e] at this
  simp at this; omega
theorem Cyc.turnF {ns : List Int} {q : Int} {c : Nat} (x : Cyc ns q c) : turnF (itrs ns q c) = itrs ns (minF (itrs ns q c)) c := by
  have m := minF_ok (itrs_ne (ns := ns) (q := q) x.1)
  have il := List.idxOf_lt_length_of_mem m.1
  have g := idx_get m.1
  unfold Lp.turnF
  generalize hj : (itrs ns q c).idxOf (minF (itrs ns q c)) = j at il g
  rw [itrs_len] at il
  rw [itrs_get il] at g
  rw [← Option.some.inj g, x.turn (by omega)]
theorem Cyc.same {ns : List Int} {q r z : Int} {c d : Nat} (x : Cyc ns q c) (y : Cyc ns r d) (h1 : z ∈ itrs ns q c) (h2 : z ∈ itrs ns r d) : Lp.turnF (itrs ns q c) = Lp.turnF (itrs ns r d) := by
  have a := x.at h1
  have b := y.at h2
  have e := a.1.uniq b.1
  subst e
  rw [x.turnF, y.turnF]
  have m1 := minF_ok (itrs_ne (ns := ns) (q := q) x.1)
  have m2 := minF_ok (itrs_ne (ns := ns) (q := r) x.1)
  have := m1.2 _ ((a.2 _).mp ((b.2 _).mpr m2.1))
  have := m2.2 _ ((b.2 _).mp ((a.2 _).mpr m1.1))
  have e : minF (itrs ns q c) = minF (itrs ns r c) := by omega
  rw [e]
theorem ringF_cyc {ns : List Int} (lo : Low ns.length ns) {p : Int} (p0 : 0 ≤ p) (p1 : p < (ns.length : Int)) : ∃ c, Cyc ns (itr ns p (heightF ns p)) c ∧ ringF ns p = turnF (itrs ns (itr ns p (heightF ns p)) c) ∧ routeF ns p = itrs ns p (heightF ns p + c) := by
  have rt := routeF_ok lo p0 p1
  obtain ⟨L, hrs, nd, hin⟩ := id rt
  rw [hrs] at nd hin
  obtain ⟨b, hb, eb⟩ := itrs_mem.mp hin
  have e := begin_at nd hin hb eb
  have eh : heightF ns p = b := by unfold heightF; rw [hrs]; exact e
  have ct := Cyc.cut (ns := ns) (q := p) (c := L) (j := b) (by omega)
  rw [eh]
  refine ⟨L - b, ⟨by omega, ?_, ?_⟩, ?_, ?_⟩
  · rw [← itr_add]
    have : b + (L - b) = L := by omega
    rw [this, eb]
  · rw [← ct.1]
    exact nd.sublist (List.drop_sublist b _)
  · unfold ringF
    rw [hrs, e, ct.1]
  · rw [hrs]; congr 1; omega
theorem ringF_step {ns : List Int} (lo : Low ns.length ns) {p : Int} (p0 : 0 ≤ p) (p1 : p < (ns.length : Int)) : ringF ns (gt ns p) = ringF ns p := by
  have g := gt_low lo p0 (by omega)
  obtain ⟨c, x, e, _⟩ := ringF_cyc lo p0 p1
  obtain ⟨d, y, e2, _⟩ := ringF_cyc lo g.1 g.2
  rw [e, e2]
  refine y.same x (z := itr ns p (heightF ns p + (heightF ns (gt ns p) + 1))) ?_ ?_
  · have : heightF ns p + (heightF ns (gt ns p) + 1) = (heightF ns (gt ns p) + heightF ns p) + 1 := by omega
    rw [this, itr_succ, itr_add]
    exact y.all _
  · rw [itr_add]
    exact x.all _
theorem ringF_itr {ns : List Int} (lo : Low ns.length ns) {p : Int} (p0 : 0 ≤ p) (p1 : p < (ns.length : Int)) : ∀ k, ringF ns (itr ns p k) = ringF ns p
  | 0 => rfl
  | k + 1 => by
    have l := itr_low lo p0 p1 k
    show ringF ns (gt ns (itr ns p k)) = _
    rw [ringF_step lo l.1 l.2, ringF_itr lo p0 p1 k]
/-- a ring: its least member first, each member pointing at the next one -/
theorem ringF_form {ns : List Int} (lo : Low ns.length ns) {p : Int} (p0 : 0 ≤ p) (p1 : p < (ns.length : Int)) : ∃ m c, ringF ns p = itrs ns m c ∧ Cyc ns m c ∧ (∀ y ∈ ringF ns p, m ≤ y) ∧ 0 ≤ m ∧ m < (ns.length : Int) := by
  obtain ⟨c, x, e, _⟩ := ringF_cyc lo p0 p1
  have m := minF_ok (itrs_ne (ns := ns) (q := itr ns p (heightF ns p)) x.1)
  have a := x.at m.1
  have l := itr_low lo p0 p1 (heightF ns p)
  refine ⟨_, c, e.trans x.turnF, a.1, fun y hy => ?_, ?_⟩
  · rw [e, x.turnF] at hy
    exact m.2 y ((a.2 y).mp hy)
  · obtain ⟨i, _, ei⟩ := itrs_mem.mp m.1
    rw [← ei]
    exact itr_low lo l.1 l.2 i

/-- the way on from the last one met on a way: the whole ring -/
theorem lap_of {ns : List Int} (lo : Low ns.length ns) {q : Int} (q0 : 0 ≤ q) (q1 : q < (ns.length : Int)) {L : Nat} (rt : Route ns q (itrs ns q L)) : ∃ M z c, L = M + 1 ∧ gt ns (itr ns q M) = z ∧ Cyc ns z c ∧ ringF ns q = turnF (itrs ns z c) ∧ Route ns z (itrs ns z c) := by
  obtain ⟨c, x, e1, e2⟩ := ringF_cyc lo q0 q1
  have e := rt.eq (routeF_ok lo q0 q1)
  rw [e2] at e
  have el := congrArg List.length e
  rw [itrs_len, itrs_len] at el
  have c0 := x.1
  refine ⟨L - 1, itr ns q (heightF ns q), c, by omega, ?_, x, e1, ⟨c, rfl, x.2.2, ?_⟩⟩
  · show itr ns q (L - 1 + 1) = _
    have : L - 1 + 1 = heightF ns q + c := by omega
    rw [this, itr_add, x.2.1]
  · exact x.all c

/-! ### components, as functions of lists -/
def headF (ns : List Int) (p : Int) : Int := (ringF ns p).headD 0
theorem headF_form {ns : List Int} (lo : Low ns.length ns) {p : Int} (p0 : 0 ≤ p) (p1 : p < (ns.length : Int)) : ∃ c, ringF ns p = itrs ns (headF ns p) c ∧ Cyc ns (headF ns p) c ∧ 0 ≤ headF ns p ∧ headF ns p < (ns.length : Int) := by
  obtain ⟨m, c, e, cy, _, m0, m1⟩ := ringF_form lo p0 p1
  have em : headF ns p = m := by
    unfold headF
    obtain ⟨d, rfl⟩ : ∃ d, c = 1 + d := ⟨c - 1, by have := cy.1; omega⟩
    rw [e, itrs_cat]; rfl
  rw [em]
  exact ⟨c, e, cy, m0, m1⟩
theorem head_iff {ns : List Int} (lo : Low ns.length ns) {p q : Int} (p0 : 0 ≤ p) (p1 : p < (ns.length : Int)) (q0 : 0 ≤ q) (q1 : q < (ns.length : Int)) : headF ns p = headF ns q ↔ ringF ns p = ringF ns q := by
  constructor
  · intro e
    obtain ⟨c, e1, cy, _⟩ := headF_form lo p0 p1
    obtain ⟨d, e2, dy, _⟩ := headF_form lo q0 q1
    rw [e] at e1 cy
    rw [e1, e2, cy.uniq dy]
  · intro e
    unfold headF
    rw [e]
/-- the people below i whose ring begins with m -/
def compH (ns : List Int) (m : Int) (i : Nat) : List Int := ((List.range i).filter fun j : Nat => decide (headF ns (j : Int) = m)).map Int.ofNat
theorem compH_succ (ns : List Int) (m : Int) (i : Nat) : compH ns m (i + 1) = if headF ns (i : Int) = m then compH ns m i ++ [(i : Int)] else compH ns m i := by
  unfold compH
  rw [List.range_succ, List.filter_append, List.map_append]
  by_cases h : headF ns (i : Int) = m
  · rw [if_pos h, List.filter_cons_of_pos (p := fun j : Nat => decide (headF ns (j : Int) = m)) (decide_eq_true h)]; rfl
  · rw [if_neg h, List.filter_cons_of_neg (p := fun j : Nat => decide (headF ns (j : Int) = m)) (by rw [decide_eq_false h]; exact Bool.false_ne_true)]
    show _ ++ [] = _
    rw [List.append_nil]
theorem compH_mem {ns : List Int} {m z : Int} {i : Nat} : z ∈ compH ns m i ↔ ∃ j : Nat, j < i ∧ headF ns (j : Int) = m ∧ z = (j : Int) := by
  unfold compH
  rw [List.mem_map]
  constructor
  · rintro ⟨j, hj, e⟩
    have q := List.mem_filter.mp hj
    exact ⟨j, List.mem_range.mp q.1, of_decide_eq_true q.2, e.symm⟩
  · rintro ⟨j, hj, e, rfl⟩
    exact ⟨j, List.mem_filter.mpr ⟨List.mem_range.mpr hj, decide_eq_true e⟩, rfl⟩
theorem compH_len (ns : List Int) (m : Int) (i : Nat) : (compH ns m i).length ≤ i := by
  unfold compH
  rw [List.length_map]
  have := List.length_filter_le (fun j : Nat => decide (headF ns (j : Int) = m)) (List.range i)
  rw [List.length_range] at this
  exact this
def compF (ns : List Int) (p : Int) : List Int := compH ns (headF ns p) ns.length
def CompsOf (ns : List Int) (CS : List (List Int)) : Prop := CS.Nodup ∧ CS.Pairwise (fun x y => HT.lexLt y x = false) ∧ ∀ k, k ∈ CS ↔ ∃ j : Nat, j < ns.length ∧ compF ns (j : Int) = k
theorem CompsOf.eq {ns : List Int} {a b : List (List Int)} (x : CompsOf ns a) (y : CompsOf ns b) : a = b := lex_uniq a b x.1 y.1 x.2.1 y.2.1 fun k => (x.2.2 k).trans (y.2.2 k).symm
/-! ### groups: a dict from ints to lists -/
theorem comps_of {ns : List Int} {ms : List Int} {CS : List (List Int)} (n1 : ms.Nodup) (ks : ∀ m, m ∈ ms ↔ ∃ j : Nat, j < ns.length ∧ headF ns (j : Int) = m) (pm : CS.Perm (ms.map fun m => compH ns m ns.length)) (rk : CS.Pairwise (fun x y => HT.lexLt y x = false)) : CompsOf ns CS := by
  refine ⟨pm.nodup_iff.mpr ?_, rk, fun k => ?_⟩
  · refine List.pairwise_map.mpr (List.Pairwise.imp_of_mem (fun {a b} ha hb ne e => ?_) n1)
    obtain ⟨j, hj, ej⟩ := (ks a).mp ha
    have h1 : (j : Int) ∈ compH ns a ns.length := compH_mem.mpr ⟨j, hj, ej, rfl⟩
    have e' : compH ns a ns.length = compH ns b ns.length := e
    rw [e'] at h1
    obtain ⟨j', _, e2, e3⟩ := compH_mem.mp h1
    have : j' = j := by omega
    subst this
    exact ne (ej.symm.trans e2)
  · rw [pm.mem_iff, List.mem_map]
    constructor
    · rintro ⟨m, hm, e⟩
      obtain ⟨j, hj, ej⟩ := (ks m).mp hm
      exact ⟨j, hj, by unfold compF; rw [ej]; exact e⟩
    · rintro ⟨j, hj, e⟩
      exact ⟨_, (ks _).mpr ⟨j, hj, rfl⟩, e⟩
/-- on a ring: met again on the own way -/
theorem on_ring {ns : List Int} {z : Int} {c : Nat} (cy : Cyc ns z c) {rs : List Int} (rt : Route ns (gt ns z) rs) : z ∈ rs := by
  have m1 : gt ns z ∈ itrs ns z c := cy.all 1
  have a := cy.at m1
  have e := rt.eq ⟨c, rfl, a.1.2.2, a.1.all c⟩
  rw [e]
  exact (a.2 z).mpr (cy.all 0)
/-- off the rings: never met again -/
theorem off_ring {ns : List Int} (lo : Low ns.length ns) {p : Int} (p0 : 0 ≤ p) (p1 : p < (ns.length : Int)) {t : Nat} (ht : t < heightF ns p) {rs : List Int} (rt : Route ns (gt ns (itr ns p t)) rs) : itr ns p t ∉ rs := by
  obtain ⟨c, cy, _, er⟩ := ringF_cyc lo p0 p1
  have nd : (itrs ns p (heightF ns p + c)).Nodup := by
    have := routeF_ok lo p0 p1
    obtain ⟨L, e, nd, _⟩ := this
    rw [er] at nd; exact nd
  intro h
  obtain ⟨L, e, _, _⟩ := rt
  rw [e] at h
  obtain ⟨i, _, ei⟩ := itrs_mem.mp h
  rw [← itr_succ, ← itr_add] at ei
  have c0 := cy.1
  by_cases z : t + (i + 1) < heightF ns p + c
  · have := itrs_apart nd z (show t < heightF ns p + c by omega) ei
    omega
  · have e1 : t + (i + 1) = heightF ns p + (t + (i + 1) - heightF ns p) := by omega
    rw [e1, itr_mod c0 (by rw [itr_add]; exact cy.2.1)] at ei
    have hm := Nat.mod_lt (t + (i + 1) - heightF ns p) c0
    have := itrs_apart nd (show heightF ns p + (t + (i + 1) - heightF ns p) % c < heightF ns p + c by omega) (show t < heightF ns p + c by omega) ei
    omega
theorem nd_subG {α : Type} [DecidableEq α] : ∀ (a b : List α), a.Nodup → (∀ x ∈ a, x ∈ b) → a.length ≤ b.length
  | [], b, _, _ => Nat.zero_le _
  | x :: a, b, nd, h => by
    have q := List.nodup_cons.mp nd
    have xb := h x List.mem_cons_self
    have := nd_subG a (b.erase x) q.2 fun y hy => (List.mem_erase_of_ne (fun e : y = x => q.1 (by rw [← e]; exact hy))).mpr (h y (List.mem_cons_of_mem _ hy))
    rw [List.length_erase_of_mem xb] at this
    have := List.length_pos_of_mem xb
    rw [List.length_cons]; omega
theorem CompsOf.len {ns : List Int} {CS : List (List Int)} (h : CompsOf ns CS) : CS.length ≤ ns.length := by
  have := nd_subG CS ((List.range ns.length).map fun j : Nat => compF ns (j : Int)) h.1 fun x hx => by
    obtain ⟨j, hj, e⟩ := (h.2.2 x).mp hx
    exact List.mem_map.mpr ⟨j, List.mem_range.mpr hj, e⟩
  rw [List.length_map, List.length_range] at this
  exact this
/-- together they hold everybody once -/
theorem CompsOf.sum {ns : List Int} {CS : List (List Int)} (h : CompsOf ns CS) : (CS.map List.length).sum = ns.length := by
  rw [← List.length_flatten]
  have nd : CS.flatten.Nodup := by
    refine List.pairwise_flatten.mpr ⟨fun l hl => ?_, List.Pairwise.imp_of_mem (fun {a b} ha hb ne x hx y hy e => ?_) h.1⟩
    · obtain ⟨j, _, e⟩ := (h.2.2 l).mp hl
      rw [← e]
      refine List.pairwise_map.mpr (List.Pairwise.imp (fun {a b} ne e => ne (Int.ofNat.inj e)) (List.Pairwise.filter _ List.nodup_range))
    · subst e
      obtain ⟨i, _, ei⟩ := (h.2.2 a).mp ha
      obtain ⟨j, _, ej⟩ := (h.2.2 b).mp hb
      rw [← ei] at hx
      rw [← ej] at hy
      obtain ⟨u, _, h1, e1⟩ := compH_mem.mp hx
      obtain ⟨v, _, h2, e2⟩ := compH_mem.mp hy
      have : u = v := by omega
      subst this
      refine ne ?_
      rw [← ei, ← ej]
      unfold compF
      rw [← h1, h2]
  refine Nat.le_antisymm (low_len _ _ nd fun z hz => ?_) ?_
  · obtain ⟨l, hl, hz⟩ := List.mem_flatten.mp hz
    obtain ⟨j, _, e⟩ := (h.2.2 l).mp hl
    rw [← e] at hz
    obtain ⟨u, hu, _, eu⟩ := compH_mem.mp hz
    omega
  · have := nd_subG ((List.range ns.length).map Int.ofNat) CS.flatten (List.pairwise_map.mpr (List.Pairwise.imp (fun {a b} ne e => ne (Int.ofNat.inj e)) List.nodup_range)) fun x hx => by
      obtain ⟨j, hj, e⟩ := List.mem_map.mp hx
      have hj' := List.mem_range.mp hj
      refine List.mem_flatten.mpr ⟨compF ns (j : Int), (h.2.2 _).mpr ⟨j, hj', rfl⟩, ?_⟩
      exact compH_mem.mpr ⟨j, hj', rfl, e.symm⟩
    rw [List.length_map, List.length_range] at this
    exact this
theorem compF_step {ns : List Int} (lo : Low ns.length ns) {p z : Int} (h : z ∈ compF ns p) : 0 ≤ z ∧ z < (ns.length : Int) ∧ gt ns z ∈ compF ns p := by
  obtain ⟨j, hj, e, rfl⟩ := compH_mem.mp h
  have g := gt_low lo (i := (j : Int)) (by omega) (by omega)
  refine ⟨by omega, by omega, compH_mem.mpr ⟨(gt ns (j : Int)).toNat, by omega, ?_, by omega⟩⟩
  have e2 : (((gt ns (j : Int)).toNat : Nat) : Int) = gt ns (j : Int) := by omega
  rw [e2, ← e]
  unfold headF
  rw [ringF_step lo (by omega) (by omega)]

/-! ### what a call keeps -/
theorem gt_callN {ns : List Int} {w p : Int} (w0 : 0 ≤ w) (w1 : w < (ns.length : Int)) (p0 : 0 ≤ p) : gt (call1 ns w) p = if p = w then gt ns (gt ns w) else gt ns p := by
  show (ns.set w.toNat (gt ns (gt ns w))).getD p.toNat 0 = if p = w then _ else ns.getD p.toNat 0
  rw [List.getD_eq_getElem?_getD, List.getD_eq_getElem?_getD, List.getElem?_set]
  by_cases h : p = w
  · subst h
    rw [if_pos rfl, if_pos rfl, if_pos (by omega)]; rfl
  · rw [if_neg h, if_neg (by omega)]
section
variable {ns : List Int} (lo : Low ns.length ns) {w : Int} (w0 : 0 ≤ w) (w1 : w < (ns.length : Int))
include lo w0 w1
theorem low_call : Low (call1 ns w).length (call1 ns w) := by
  rw [call1_len]; exact call1_low lo rfl w0 w1
/-- a step behind the call is one or two steps ahead of it -/
theorem itr_call {p : Int} (p0 : 0 ≤ p) (p1 : p < (ns.length : Int)) : ∀ k, ∃ k', k ≤ k' ∧ itr (call1 ns w) p k = itr ns p k'
  | 0 => ⟨0, Nat.le_refl _, rfl⟩
  | k + 1 => by
    obtain ⟨k', hk, e⟩ := itr_call p0 p1 k
    have l := itr_low lo p0 p1 k'
    have g := gt_callN w0 w1 l.1 (ns := ns)
    have e2 : itr (call1 ns w) p (k + 1) = gt (call1 ns w) (itr ns p k') := congrArg (gt (call1 ns w)) e
    by_cases z : itr ns p k' = w
    · refine ⟨k' + 2, by omega, ?_⟩
      rw [e2, g, if_pos z, ← z]; rfl
    · refine ⟨k' + 1, by omega, ?_⟩
      rw [e2, g, if_neg z]; rfl
theorem ring_stepC {p : Int} (p0 : 0 ≤ p) (p1 : p < (ns.length : Int)) : ringF (call1 ns w) (gt ns p) = ringF (call1 ns w) p := by
  have lc := low_call lo w0 w1
  have len : (call1 ns w).length = ns.length := call1_len _ _
  have g := gt_low lo p0 p1
  by_cases z : p = w
  · subst z
    by_cases y : gt ns p = p
    · rw [y]
    · have s1 := ringF_step lc (p := p) p0 (by rw [len]; exact p1)
      have s2 := ringF_step lc (p := gt ns p) g.1 (by rw [len]; exact g.2)
      rw [gt_callN w0 w1 p0, if_pos rfl] at s1
      rw [gt_callN w0 w1 g.1, if_neg y] at s2
      rw [← s2, s1]
  · have s1 := ringF_step lc (p := p) p0 (by rw [len]; exact p1)
    rw [gt_callN w0 w1 p0, if_neg z] at s1
    exact s1
theorem ring_itrC {p : Int} (p0 : 0 ≤ p) (p1 : p < (ns.length : Int)) : ∀ k, ringF (call1 ns w) (itr ns p k) = ringF (call1 ns w) p
  | 0 => rfl
  | k + 1 => by
    have l := itr_low lo p0 p1 k
    show ringF (call1 ns w) (gt ns (itr ns p k)) = _
    rw [ring_stepC lo w0 w1 l.1 l.2, ring_itrC p0 p1 k]
end
theorem ring_itr {ns : List Int} (lo : Low ns.length ns) {p m : Int} (p0 : 0 ≤ p) (p1 : p < (ns.length : Int)) (h : m ∈ ringF ns p) : ∃ s, itr ns p s = m := by
  obtain ⟨c, x, e, _⟩ := ringF_cyc lo p0 p1
  rw [e, x.turnF] at h
  have mm := minF_ok (itrs_ne (ns := ns) (q := itr ns p (heightF ns p)) x.1)
  obtain ⟨i, _, ei⟩ := itrs_mem.mp (((x.at mm.1).2 m).mp h)
  exact ⟨heightF ns p + i, by rw [itr_add]; exact ei⟩
theorem meet_iff {ns : List Int} (lo : Low ns.length ns) {p r : Int} (p0 : 0 ≤ p) (p1 : p < (ns.length : Int)) (r0 : 0 ≤ r) (r1 : r < (ns.length : Int)) : ringF ns p = ringF ns r ↔ ∃ s t, itr ns p s = itr ns r t := by
  constructor
  · intro e
    obtain ⟨m, c, e1, cy, _⟩ := ringF_form lo p0 p1
    have hm : m ∈ ringF ns p := by rw [e1]; exact itrs_mem.mpr ⟨0, cy.1, rfl⟩
    obtain ⟨s, es⟩ := ring_itr lo p0 p1 hm
    obtain ⟨t, et⟩ := ring_itr lo r0 r1 (e ▸ hm)
    exact ⟨s, t, es.trans et.symm⟩
  · rintro ⟨s, t, e⟩
    rw [← ringF_itr lo p0 p1 s, ← ringF_itr lo r0 r1 t, e]
theorem ring_call {ns : List Int} (lo : Low ns.length ns) {w p r : Int} (w0 : 0 ≤ w) (w1 : w < (ns.length : Int)) (p0 : 0 ≤ p) (p1 : p < (ns.length : Int)) (r0 : 0 ≤ r) (r1 : r < (ns.length : Int)) : ringF ns p = ringF ns r ↔ ringF (call1 ns w) p = ringF (call1 ns w) r := by
  have lc := low_call lo w0 w1
  have len : (call1 ns w).length = ns.length := call1_len _ _
  constructor
  · intro e
    obtain ⟨s, t, e⟩ := (meet_iff lo p0 p1 r0 r1).mp e
    rw [← ring_itrC lo w0 w1 p0 p1 s, ← ring_itrC lo w0 w1 r0 r1 t, e]
  · intro e
    obtain ⟨s, t, e⟩ := (meet_iff lc p0 (by rw [len]; exact p1) r0 (by rw [len]; exact r1)).mp e
    obtain ⟨s', _, es⟩ := itr_call lo w0 w1 p0 p1 s
    obtain ⟨t', _, et⟩ := itr_call lo w0 w1 r0 r1 t
    exact (meet_iff lo p0 p1 r0 r1).mpr ⟨s', t', by rw [← es, ← et]; exact e⟩
theorem comp_call {ns : List Int} (lo : Low ns.length ns) {w : Int} (w0 : 0 ≤ w) (w1 : w < (ns.length : Int)) {p : Nat} (hp : p < ns.length) : compF (call1 ns w) (p : Int) = compF ns (p : Int) := by
  have lc := low_call lo w0 w1
  have len : (call1 ns w).length = ns.length := call1_len _ _
  unfold compF compH
  rw [len]
  congr 1
  refine List.filter_congr fun j hj => ?_
  have hj' := List.mem_range.mp hj
  have a := head_iff lo (p := (j : Int)) (q := (p : Int)) (by omega) (by omega) (by omega) (by omega)
  have b := head_iff lc (p := (j : Int)) (q := (p : Int)) (by omega) (by omega) (by omega) (by omega)
  have c := ring_call lo w0 w1 (p := (j : Int)) (r := (p : Int)) (by omega) (by omega) (by omega) (by omega)
  by_cases z : headF ns (j : Int) = headF ns (p : Int)
  · rw [decide_eq_true z, decide_eq_true (b.mpr (c.mp (a.mp z)))]
  · rw [decide_eq_false z, decide_eq_false (fun y => z (a.mpr (c.mpr (b.mp y))))]
theorem CompsOf.call {ns : List Int} (lo : Low ns.length ns) {w : Int} (w0 : 0 ≤ w) (w1 : w < (ns.length : Int)) {CS : List (List Int)} (h : CompsOf ns CS) : CompsOf (call1 ns w) CS := by
  refine ⟨h.1, h.2.1, fun k => (h.2.2 k).trans ?_⟩
  rw [call1_len]
  constructor
  · rintro ⟨j, hj, e⟩; exact ⟨j, hj, (comp_call lo w0 w1 hj).trans e⟩
  · rintro ⟨j, hj, e⟩; exact ⟨j, hj, (comp_call lo w0 w1 hj).symm.trans e⟩
theorem way_call {ns : List Int} (lo : Low ns.length ns) {w p : Int} (w0 : 0 ≤ w) (w1 : w < (ns.length : Int)) (p0 : 0 ≤ p) (p1 : p < (ns.length : Int)) {rs rs' : List Int} (a : Route ns (gt ns p) rs) (b : Route (call1 ns w) (gt (call1 ns w) p) rs') : ∀ z ∈ rs', z ∈ rs := by
  intro z hz
  obtain ⟨L, e, _, _⟩ := b
  rw [e] at hz
  obtain ⟨i, _, ei⟩ := itrs_mem.mp hz
  rw [← itr_succ] at ei
  obtain ⟨k, hk, ek⟩ := itr_call lo w0 w1 p0 p1 (i + 1)
  rw [ei] at ek
  obtain ⟨k', rfl⟩ : ∃ k', k = k' + 1 := ⟨k - 1, by omega⟩
  rw [itr_succ] at ek
  obtain ⟨M, rfl, nd, hin⟩ := a
  obtain ⟨b, hb, eb⟩ := itrs_mem.mp hin
  rw [ek]
  by_cases y : k' < M
  · exact itrs_mem.mpr ⟨k', y, rfl⟩
  · have m := itr_mod (ns := ns) (p := gt ns p) (b := b) (d := M - b) (by omega) (by
      have : b + (M - b) = M := by omega
      rw [this, eb]) (k' - b)
    have e3 : b + (k' - b) = k' := by omega
    rw [e3] at m
    have hm := Nat.mod_lt (k' - b) (show 0 < M - b by omega)
    exact itrs_mem.mpr ⟨b + (k' - b) % (M - b), by omega, m.symm⟩
theorem ring_at {ns : List Int} (lo : Low ns.length ns) {m : Int} (m0 : 0 ≤ m) (m1 : m < (ns.length : Int)) {c : Nat} (cy : Cyc ns m c) : ringF ns m = turnF (itrs ns m c) := by
  obtain ⟨d, x, e, _⟩ := ringF_cyc lo m0 m1
  rw [e]
  exact x.same cy (z := itr ns m (heightF ns m)) (x.all 0) (cy.all _)
theorem turn_self {ns : List Int} {m : Int} {c : Nat} (cy : Cyc ns m c) (least : ∀ y ∈ itrs ns m c, m ≤ y) : turnF (itrs ns m c) = itrs ns m c := by
  rw [cy.turnF]
  have mm := minF_ok (itrs_ne (ns := ns) (q := m) cy.1)
  have := least _ mm.1
  have := mm.2 m (itrs_mem.mpr ⟨0, cy.1, rfl⟩)
  have e : minF (itrs ns m c) = m := by omega
  rw [e]
/-- a ring without the called one stays -/
theorem ring_off {ns : List Int} (lo : Low ns.length ns) {w p : Int} (w0 : 0 ≤ w) (w1 : w < (ns.length : Int)) (p0 : 0 ≤ p) (p1 : p < (ns.length : Int)) (h : w ∉ ringF ns p) : ringF (call1 ns w) p = ringF ns p := by
  have lc := low_call lo w0 w1
  have len : (call1 ns w).length = ns.length := call1_len _ _
  obtain ⟨m, c, e, cy, least, m0, m1⟩ := ringF_form lo p0 p1
  have same : ∀ i, itr (call1 ns w) m i = itr ns m i := by
    intro i
    induction i with
    | zero => rfl
    | succ i ih =>
      show gt (call1 ns w) (itr (call1 ns w) m i) = gt ns (itr ns m i)
      have l := itr_low lo m0 m1 i
      rw [ih, gt_callN w0 w1 l.1, if_neg (fun z => h (by rw [e, ← z]; exact cy.all i))]
  have es : itrs (call1 ns w) m c = itrs ns m c := by
    unfold itrs
    exact List.map_congr_left fun i _ => same i
  have cy' : Cyc (call1 ns w) m c := ⟨cy.1, (same c).trans cy.2.1, by rw [es]; exact cy.2.2⟩
  have hm : m ∈ ringF ns p := by rw [e]; exact itrs_mem.mpr ⟨0, cy.1, rfl⟩
  obtain ⟨s, es2⟩ := ring_itr lo p0 p1 hm
  have r1 := ring_itrC lo w0 w1 p0 p1 s
  rw [es2] at r1
  rw [← r1, ring_at lc m0 (by rw [len]; exact m1) cy', es, turn_self cy (by rw [← e]; exact least), e]
/-- a ring with the called one loses the next one -/
theorem ring_on {ns : List Int} (lo : Low ns.length ns) {w p : Int} (w0 : 0 ≤ w) (w1 : w < (ns.length : Int)) (p0 : 0 ≤ p) (p1 : p < (ns.length : Int)) (h : w ∈ ringF ns p) (two : (ringF ns p).length ≠ 1) :
    ringF (call1 ns w) p = turnF ((ringF ns p).filter fun z => decide (z ≠ gt ns w)) ∧ (ringF ns p).filter (fun z => decide (z ≠ gt ns w)) ≠ [] := by
  have lc := low_call lo w0 w1
  have len : (call1 ns w).length = ns.length := call1_len _ _
  obtain ⟨m, c, e, cy, least, m0, m1⟩ := ringF_form lo p0 p1
  have hw := h
  rw [e] at hw
  rw [e, itrs_len] at two
  have c0 := cy.1
  have cw := cy.at hw
  have hv : gt ns w ∈ itrs ns m c := (cw.2 _).mp (cw.1.all 1)
  have cv := cy.at hv
  have gv := gt_low lo w0 w1
  generalize hvv : gt ns w = v at hv cv gv
  obtain ⟨d, rfl⟩ : ∃ d, c = d + 1 := ⟨c - 1, by omega⟩
  have d0 : 0 < d := by omega
  -- w is the last one from v on
  have ew : itr ns v d = w := by
    have := cw.1.2.1
    rw [itr_succ, hvv] at this
    exact this
  have sp : itrs ns v (d + 1) = v :: itrs ns (gt ns v) d := by
    have := itrs_cat ns v 1 d
    rw [Nat.add_comm] at this
    exact this
  have ndv := cv.1.2.2
  rw [sp] at ndv
  have nx := List.nodup_cons.mp ndv
  have gg := gt_low lo gv.1 gv.2
  -- the same from the one behind v on, after the call
  have same : ∀ i, i < d → itr (call1 ns w) (gt ns v) i = itr ns (gt ns v) i := by
    intro i
    induction i with
    | zero => intro _; rfl
    | succ i ih =>
      intro hi
      show gt (call1 ns w) (itr (call1 ns w) (gt ns v) i) = gt ns (itr ns (gt ns v) i)
      have l := itr_low lo gg.1 gg.2 i
      rw [ih (by omega), gt_callN w0 w1 l.1, if_neg]
      intro z
      rw [← itr_succ, ← ew] at z
      have := itrs_apart cv.1.2.2 (show i + 1 < d + 1 by omega) (show d < d + 1 by omega) z
      omega
  have es : itrs (call1 ns w) (gt ns v) d = itrs ns (gt ns v) d := by
    unfold itrs
    exact List.map_congr_left fun i hi => same i (List.mem_range.mp hi)
  have cx : Cyc (call1 ns w) (gt ns v) d := by
    refine ⟨d0, ?_, by rw [es]; exact nx.2⟩
    obtain ⟨k, rfl⟩ : ∃ k, d = k + 1 := ⟨d - 1, by omega⟩
    show gt (call1 ns w) (itr (call1 ns w) (gt ns v) k) = gt ns v
    rw [same k (by omega), ← itr_succ, ew, gt_callN w0 w1 w0, if_pos rfl, hvv]
  -- the ring as it stood: A, v, B
  obtain ⟨j, hj, ej⟩ := itrs_mem.mp hv
  have cut := Cyc.cut (ns := ns) (q := m) (c := d + 1) (j := j) (by omega)
  have tn := cy.turn (j := j) (by omega)
  rw [ej] at cut tn
  obtain ⟨B, hB⟩ : ∃ B, (itrs ns m (d + 1)).drop j = v :: B := by
    rw [cut.1]
    obtain ⟨r, er⟩ : ∃ r, d + 1 - j = 1 + r := ⟨d - j, by omega⟩
    rw [er, itrs_cat]
    exact ⟨_, rfl⟩
  generalize hA : (itrs ns m (d + 1)).take j = A at tn
  have lap : itrs ns m (d + 1) = A ++ v :: B := by rw [← hA, ← hB, List.take_append_drop]
  rw [hB, sp] at tn
  have eX : itrs ns (gt ns v) d = B ++ A := (List.cons.inj tn).2
  have ndl := cy.2.2
  rw [lap] at ndl
  have nA : ∀ z ∈ A, z ≠ v := fun z hz => (List.nodup_append.mp ndl).2.2 z hz v List.mem_cons_self
  have nB : ∀ z ∈ B, z ≠ v := fun z hz y => (List.nodup_cons.mp (List.nodup_append.mp ndl).2.1).1 (y ▸ hz)
  have rest : (A ++ v :: B).filter (fun z => decide (z ≠ v)) = A ++ B := by
    rw [List.filter_append, List.filter_cons_of_neg (by simp), List.filter_eq_self.mpr fun z hz => decide_eq_true (nA z hz), List.filter_eq_self.mpr fun z hz => decide_eq_true (nB z hz)]
  have lB : B.length ≤ d := by
    have := congrArg List.length eX
    rw [itrs_len, List.length_append] at this; omega
  have rot := cx.turn (j := B.length) lB
  rw [es, eX, List.drop_left, List.take_left] at rot
  have cr : Cyc (call1 ns w) (itr (call1 ns w) (gt ns v) B.length) d := (cx.at (cx.all _)).1
  rw [e, lap, rest]
  have mr : ringF (call1 ns w) p = turnF (itrs (call1 ns w) (gt ns v) d) := by
    have hm : itr ns m (j + 1) ∈ ringF ns p := by rw [e]; exact cy.all _
    obtain ⟨s, es2⟩ := ring_itr lo p0 p1 hm
    have r1 := ring_itrC lo w0 w1 p0 p1 s
    have e2 : itr ns m (j + 1) = gt ns v := by
      show gt ns (itr ns m j) = _
      rw [ej]
    rw [es2, e2] at r1
    rw [← r1, ring_at lc gg.1 (by rw [len]; exact gg.2) cx]
  refine ⟨?_, ?_⟩
  · rw [mr, ← rot]
    exact cx.same cr (z := itr (call1 ns w) (gt ns v) B.length) (cx.all _) (cr.all 0)
  · rw [← rot]; exact itrs_ne d0

end Lp

namespace Lp
open PySem PySem.Spec PyProof.Rows L2
/-! ### steps that wait until they know their data -/
def gv (i : Nat) (o : Option SV) (ε : Env) (Q : R → Env → Prop) : Prop := match o with
  | some (.sh d) => Q (.sh d) ε
  | some (.ow ds) => Q (.br i ds) ε
  | some .bx => Q .bx ε
  | some (.raw v) => Q (.raw v) ε
  | some (.st S n) => Q (.sr i S n) ε
  | _ => False
theorem dVar_ (i : Nat) (ε : Env) (Q : R → Env → Prop) : dVar i ε Q = gv i ε.s[i]? ε Q := rfl
section
variable (i : Nat) (ε : Env) (Q : R → Env → Prop)
theorem gv_sh (d : PyData) : gv i (some (.sh d)) ε Q = Q (.sh d) ε := rfl
theorem gv_ow (ds : List PyData) : gv i (some (.ow ds)) ε Q = Q (.br i ds) ε := rfl
theorem gv_bx : gv i (some .bx) ε Q = Q .bx ε := rfl
theorem gv_raw (v : V) : gv i (some (.raw v)) ε Q = Q (.raw v) ε := rfl
theorem gv_st (S : Int → Bool) (n : Nat) : gv i (some (.st S n)) ε Q = Q (.sr i S n) ε := rfl
end
def ga (F : DSp) (o : Option (List SV)) (b : Bool) (ε : Env) (Q : R → Env → Prop) : Prop := match o with
  | some args => F args ε.c fun r c => match b with
    | true => immR r = true ∧ Q r ⟨ε.s, c⟩
    | false => Q r ⟨ε.s, c⟩
  | none => False
theorem dArgs_ (F : DSp) (rs : List R) (ε : Env) (Q : R → Env → Prop) : dArgs F rs ε Q = ga F (argsOf rs) (hasBr rs) ε Q := rfl
theorem ga_f (F : DSp) (args : List SV) (ε : Env) (Q : R → Env → Prop) : ga F (some args) false ε Q = F args ε.c fun r c => Q r ⟨ε.s, c⟩ := rfl
theorem ga_t (F : DSp) (args : List SV) (ε : Env) (Q : R → Env → Prop) : ga F (some args) true ε Q = F args ε.c fun r c => immR r = true ∧ Q r ⟨ε.s, c⟩ := rfl
def gi (r : R) (ε : Env) (Q : List PyData → Bool → Env → Prop) : Prop := match r with
  | .sh (.list ds) => Q ds true ε
  | .sh (.tuple ds) => Q ds true ε
  | .br _ ds => Q ds false ε
  | _ => False
theorem dIter_ (f : DTE) (ε : Env) (Q : List PyData → Bool → Env → Prop) : dIter f ε Q = f ε fun r ε1 => gi r.pub ε1 Q := rfl
theorem gi_l (ds : List PyData) (ε : Env) (Q : List PyData → Bool → Env → Prop) : gi (.sh (.list ds)) ε Q = Q ds true ε := rfl
theorem gi_t (ds : List PyData) (ε : Env) (Q : List PyData → Bool → Env → Prop) : gi (.sh (.tuple ds)) ε Q = Q ds true ε := rfl
theorem gi_b (i : Nat) (ds : List PyData) (ε : Env) (Q : List PyData → Bool → Env → Prop) : gi (.br i ds) ε Q = Q ds false ε := rfl
section
variable (Q : R → Prop)
theorem add_i (i j : Int) : φAdd (.int i) (.int j) Q = Q (.sh (.int (i + j))) := rfl
theorem add_l (a b : List PyData) : φAdd (.list a) (.list b) Q = (a.length + b.length ≤ sizeLine ∧ Q (.nw (a ++ b))) := rfl
theorem add_t (a b : List PyData) : φAdd (.tuple a) (.tuple b) Q = (a.length + b.length ≤ sizeLine ∧ Q (.sh (.tuple (a ++ b)))) := rfl
theorem mul_i (i j : Int) : φMul (.int i) (.int j) Q = (CMulW i j ∧ Q (.sh (.int (i * j)))) := rfl
theorem mul_l (a : List PyData) (k : Int) : φMul (.list a) (.int k) Q = ((-(2 ^ 63) ≤ k ∧ k < 2 ^ 63 ∧ a.length * k.toNat ≤ sizeLine) ∧ Q (.nw (List.replicate k.toNat a).flatten)) := rfl
theorem sl_l (ds : List PyData) (l h : Option Int) : φSl (.list ds) l h Q = Q (.nw (cutD ds l h)) := rfl
theorem sl_t (ds : List PyData) (l h : Option Int) : φSl (.tuple ds) l h Q = Q (.sh (.tuple (cutD ds l h))) := rfl
theorem eq_i (n : Bool) (i j : Int) : φEq n (.int i) (.int j) Q = Q (.sh (.bool (if n then !decide (i = j) else decide (i = j)))) := rfl
theorem eq_s (n : Bool) (i j : Str) : φEq n (.str i) (.str j) Q = Q (.sh (.bool (if n then !decide (i = j) else decide (i = j)))) := rfl
theorem eq_l (n : Bool) (a b : List PyData) : φEq n (.list a) (.list b) Q = ((SeqAt.shaped (.list a) = true ∧ SeqAt.shaped (.list b) = true) ∧ Q (.sh (.bool (if n then !PyData.eqv (.list a) (.list b) else PyData.eqv (.list a) (.list b))))) := rfl
theorem eq_t (n : Bool) (a b : List PyData) : φEq n (.tuple a) (.tuple b) Q = ((SeqAt.shaped (.tuple a) = true ∧ SeqAt.shaped (.tuple b) = true) ∧ Q (.sh (.bool (if n then !PyData.eqv (.tuple a) (.tuple b) else PyData.eqv (.tuple a) (.tuple b))))) := rfl
theorem eq_b (n : Bool) (a b : Bool) : φEq n (.bool a) (.bool b) Q = ((SeqAt.shaped (.bool a) = true ∧ SeqAt.shaped (.bool b) = true) ∧ Q (.sh (.bool (if n then !PyData.eqv (.bool a) (.bool b) else PyData.eqv (.bool a) (.bool b))))) := rfl
theorem eq_n (n : Bool) : φEq n .none .none Q = ((SeqAt.shaped .none = true ∧ SeqAt.shaped .none = true) ∧ Q (.sh (.bool (if n then !PyData.eqv .none .none else PyData.eqv .none .none)))) := rfl
end
end Lp

namespace Lp
open PySem PySem.Spec PyProof.Rows L2
theorem its_l (ds : List PyData) : PyData.its (.list ds) = some ds := rfl
theorem its_t (ds : List PyData) : PyData.its (.tuple ds) = some ds := rfl
theorem isN_n : isN .none = true := rfl
theorem isN_b (b : Bool) : isN (.bool b) = false := rfl
theorem isN_i (z : Int) : isN (.int z) = false := rfl
theorem isN_s (x : Str) : isN (.str x) = false := rfl
theorem isN_l (ds : List PyData) : isN (.list ds) = false := rfl
theorem isN_t (ds : List PyData) : isN (.tuple ds) = false := rfl
theorem rd_sh (d : PyData) : R.dat (.sh d) = some d := rfl
theorem rd_nw (ds : List PyData) : R.dat (.nw ds) = some (.list ds) := rfl
theorem rd_br (i : Nat) (ds : List PyData) : R.dat (.br i ds) = some (.list ds) := rfl
theorem rp_sh (d : PyData) : R.pub (.sh d) = .sh d := rfl
theorem rp_nw (ds : List PyData) : R.pub (.nw ds) = .sh (.list ds) := rfl
theorem rp_br (i : Nat) (ds : List PyData) : R.pub (.br i ds) = .br i ds := rfl
theorem rp_bx : R.pub .bx = .bx := rfl
theorem rp_raw (v : V) : R.pub (.raw v) = .raw v := rfl
theorem rp_sr (i : Nat) (S : Int → Bool) (n : Nat) : R.pub (.sr i S n) = .sr i S n := rfl
theorem rr_sh (d : PyData) : R.ret (.sh d) = some (.sh d) := rfl
theorem rr_nw (ds : List PyData) : R.ret (.nw ds) = some (.nw ds) := rfl
theorem rr_br (i : Nat) (ds : List PyData) : R.ret (.br i ds) = some (.nw ds) := rfl
theorem ra_sh (d : PyData) : R.arg (.sh d) = some (.sh d) := rfl
theorem ra_br (i : Nat) (ds : List PyData) : R.arg (.br i ds) = some (.sh (.list ds)) := rfl
theorem ra_bx : R.arg .bx = some .bx := rfl
theorem ra_raw (v : V) : R.arg (.raw v) = some (.raw v) := rfl
theorem va_sh (o : Bool) (d : PyData) : val o (.sh d) = some (.sh d) := rfl
theorem va_nt (ds : List PyData) : val true (.nw ds) = some (.ow ds) := rfl
theorem va_nf (ds : List PyData) : val false (.nw ds) = some (.sh (.list ds)) := rfl
theorem va_raw (o : Bool) (v : V) : val o (.raw v) = some (.raw v) := rfl
theorem hb_n : hasBr [] = false := rfl
theorem hb_sh (d : PyData) (rs : List R) : hasBr (.sh d :: rs) = hasBr rs := rfl
theorem hb_bx (rs : List R) : hasBr (.bx :: rs) = hasBr rs := rfl
theorem hb_raw (v : V) (rs : List R) : hasBr (.raw v :: rs) = hasBr rs := rfl
theorem hb_br (i : Nat) (ds : List PyData) (rs : List R) : hasBr (.br i ds :: rs) = true := rfl
theorem sh_n : shs [] = some [] := rfl
theorem sh_c (d : PyData) (rs : List R) : shs (.sh d :: rs) = match shs rs with
    | some ds => some (d :: ds)
    | none => none := rfl
theorem tr_n : truD .none = some false := rfl
theorem tr_b (b : Bool) : truD (.bool b) = some b := rfl
theorem tr_i (z : Int) : truD (.int z) = some (z != 0) := rfl
theorem tr_l (ds : List PyData) : truD (.list ds) = some (!ds.isEmpty) := rfl
theorem tr_t (ds : List PyData) : truD (.tuple ds) = some (!ds.isEmpty) := rfl
theorem ty_n : tyD .none = "NoneType" := rfl
theorem ty_b (b : Bool) : tyD (.bool b) = "bool" := rfl
theorem ty_i (z : Int) : tyD (.int z) = "int" := rfl
theorem ty_s (x : Str) : tyD (.str x) = "str" := rfl
theorem ty_l (ds : List PyData) : tyD (.list ds) = "list" := rfl
theorem ty_t (ds : List PyData) : tyD (.tuple ds) = "tuple" := rfl
universe u
theorem if_ff {α : Sort u} (a b : α) : (if false = true then a else b) = b := rfl
theorem if_tt {α : Sort u} (a b : α) : (if true = true then a else b) = a := rfl
theorem sq_ {p q : DTS} {Δ : DEnds} {ε : Env} (h : p { Δ with nx := q Δ } ε) : dSeq p q Δ ε := h
theorem sqa_ {p q : DTS} {Δ : DEnds} {ε : Env} (h : ∀ D : Env → Prop, (∀ ε, q Δ ε → D ε) → p { Δ with nx := D } ε) : dSeq p q Δ ε := h _ fun _ z => z
/-! ### tests whose answer is known -/
theorem if_t {b : Bool} {A B : Prop} (h : b = true) (a : A) : if b = true then A else B := by rw [if_pos h]; exact a
theorem if_f {b : Bool} {A B : Prop} (h : b = false) (x : B) : if b = true then A else B := by rw [h]; exact iteF x
theorem it_t {P A B : Prop} [Decidable P] (h : P) (a : A) : if decide P = true then A else B := if_t (decide_eq_true h) a
theorem it_f {P A B : Prop} [Decidable P] (h : ¬ P) (x : B) : if decide P = true then A else B := if_f (decide_eq_false h) x
theorem it_2 {P A B : Prop} [Decidable P] (h : P → A) (k : ¬ P → B) : if decide P = true then A else B := by
  by_cases q : P
  · exact it_t q (h q)
  · exact it_f q (k q)
theorem in_t {P A B : Prop} [Decidable P] (h : ¬ P) (a : A) : if (!decide P) = true then A else B := if_t (by rw [decide_eq_false h]; rfl) a
theorem in_f {P A B : Prop} [Decidable P] (h : P) (x : B) : if (!decide P) = true then A else B := if_f (by rw [decide_eq_true h]; rfl) x
theorem in_2 {P A B : Prop} [Decidable P] (h : ¬ P → A) (k : P → B) : if (!decide P) = true then A else B := by
  by_cases q : P
  · exact in_f q (k q)
  · exact in_t q (h q)
/-! ### states as data -/
/-- ints as a list or as a tuple -/
def sq (b : Bool) (ns : List Int) : PyData := match b with
  | true => .list (dI ns)
  | false => .tuple (dI ns)
theorem its_sq (b : Bool) (ns : List Int) : PyData.its (sq b ns) = some (dI ns) := by cases b <;> rfl
theorem dI_len (ns : List Int) : (dI ns).length = ns.length := List.length_map ..
theorem dI_get {ns : List Int} {i : Nat} {z : Int} (h : ns[i]? = some z) : (dI ns)[i]? = some (.int z) := by rw [List.getElem?_map, h]; rfl
theorem dI_app (a b : List Int) : dI a ++ dI b = dI (a ++ b) := by
  show a.map _ ++ b.map _ = _
  rw [← List.map_append]
theorem dI_snoc (a : List Int) (z : Int) : dI a ++ [.int z] = dI (a ++ [z]) := dI_app a [z]
theorem dI_set (ns : List Int) (i : Nat) (z : Int) : (dI ns).set i (.int z) = dI (ns.set i z) := by
  exact (List.map_set ..).symm
theorem dI_erase : ∀ (ns : List Int) (i : Nat), (dI ns).eraseIdx i = dI (ns.eraseIdx i)
  | [], _ => rfl
  | _ :: _, 0 => rfl
  | x :: r, i + 1 => by
    show _ :: (dI r).eraseIdx i = _ :: dI (r.eraseIdx i)
    rw [dI_erase r i]
theorem atI_nat {α : Type} {xs : List α} {i : Int} (h0 : 0 ≤ i) (h1 : i < (xs.length : Int)) : atI xs i = xs[i.toNat]? := by
  unfold atI ixN
  rw [if_pos h0, if_pos h1]; rfl
theorem atI_dI {ns : List Int} {i : Int} (h0 : 0 ≤ i) (h1 : i < (ns.length : Int)) : atI (dI ns) i = some (.int (gt ns i)) := by
  rw [atI_nat h0 (by rw [dI_len]; exact h1)]
  exact dI_get (gt_get h0 h1)
theorem atI_last {α : Type} {xs : List α} {v : α} (h : xs.getLast? = some v) : atI xs (-1) = some v := by
  have hn : xs ≠ [] := fun e => by rw [e] at h; cases h
  have hl : 0 < xs.length := List.length_pos_iff.mpr hn
  unfold atI ixN
  rw [if_neg (by decide), if_pos (by omega)]
  show xs[((-1 : Int) + (xs.length : Int)).toNat]? = some v
  rw [show ((-1 : Int) + (xs.length : Int)).toNat = xs.length - 1 by omega, ← List.getLast?_eq_getElem?]; exact h
theorem ixN_ok {n : Nat} {i : Int} (h0 : 0 ≤ i) (h1 : i < (n : Int)) : ixN n i = some i.toNat := by
  unfold ixN; rw [if_pos h0, if_pos h1]
theorem sIx_int (n d : Nat) (k : Int) (h : 0 ≤ k) : HT.sIx n d (some k) = min k.toNat n := by
  have e : k = ((k.toNat : Nat) : Int) := by omega
  rw [e]; rw [HT.sIx_nat]; congr 1
theorem cutD_from (ds : List PyData) (k : Int) (h : 0 ≤ k) : cutD ds (some k) none = ds.drop k.toNat := by
  unfold cutD
  rw [sIx_int _ _ _ h, HT.sIx_none]
  by_cases q : k.toNat ≤ ds.length
  · rw [Nat.min_eq_left q, List.take_of_length_le (by rw [List.length_drop]; exact Nat.le_refl _)]
  · rw [Nat.min_eq_right (by omega), List.drop_length, List.drop_eq_nil_of_le (by omega), List.take_nil]
theorem cutD_to (ds : List PyData) (k : Int) (h : 0 ≤ k) : cutD ds none (some k) = ds.take k.toNat := by
  unfold cutD
  rw [sIx_int _ _ _ h, HT.sIx_none, List.drop_zero, Nat.sub_zero]
  by_cases q : k.toNat ≤ ds.length
  · rw [Nat.min_eq_left q]
  · rw [Nat.min_eq_right (by omega), List.take_of_length_le (Nat.le_refl _), List.take_of_length_le (by omega)]
theorem dI_drop (ns : List Int) (k : Nat) : (dI ns).drop k = dI (ns.drop k) := by rw [← List.map_drop]
theorem dI_take (ns : List Int) (k : Nat) : (dI ns).take k = dI (ns.take k) := by rw [← List.map_take]
theorem inV_dI (z : Int) (ns : List Int) : inV (.int z) (IL ns) = decide (z ∈ ns) := inV_ints z ns
theorem flatsD_dI : ∀ ns : List Int, flatsD (dI ns) = some (IL ns)
  | [] => rfl
  | x :: r => by
    show (match flatD (.int x), flatsD (dI r) with | some v, some vs => some (v :: vs) | _, _ => none) = _
    rw [flatsD_dI r]; rfl
/-- x in xs, ints -/
theorem φIn_dI {neg : Bool} {z : Int} {d : PyData} {ns : List Int} {Q : R → Prop} (hd : PyData.its d = some (dI ns)) (q : Q (.sh (.bool (if neg then !decide (z ∈ ns) else decide (z ∈ ns))))) : φIn neg (.int z) d Q := by
  unfold φIn
  rw [hd]
  show (match flatD (.int z), flatsD (dI ns) with | some v, some vs => Q (.sh (.bool (if neg then !inV v vs else inV v vs))) | _, _ => _)
  rw [flatsD_dI]
  show Q (.sh (.bool (if neg then !inV (.int z) (IL ns) else inV (.int z) (IL ns))))
  rw [inV_ints]; exact q
theorem imms_dI : ∀ ns : List Int, imms (dI ns) = true
  | [] => by simp [imms]
  | x :: r => by
    show imms (.int x :: dI r) = true
    unfold imms
    rw [imms_dI r]
    unfold imm; rfl
theorem imm_tup (ns : List Int) : imm (.tuple (dI ns)) = true := by unfold imm; exact imms_dI ns
theorem imms_dT : ∀ nss : List (List Int), imms (dT nss) = true
  | [] => by simp [imms]
  | x :: r => by
    show imms (.tuple (dI x) :: dT r) = true
    unfold imms
    rw [imms_dT r, imm_tup]; rfl
/-- a state: people 0 .. n - 1, at most 1000 -/
structure Stt (ns : List Int) : Prop where
  lo : Low ns.length ns
  le : ns.length ≤ 1000
  ge : 1 ≤ ns.length
def Per (ns : List Int) (p : Int) : Prop := 0 ≤ p ∧ p < (ns.length : Int)
theorem Stt.gt {ns : List Int} (h : Stt ns) {p : Int} (hp : Per ns p) : Per ns (gt ns p) := gt_low h.lo hp.1 hp.2
/-! ### check_person -/
/-- check_person: state, person -/
def b_check_person : DTS := (dIfS (dNot (dTest (dChain (φB fun i j => decide (i ≤ j)) (φB fun i j => decide (i < j)) (dC (.int 0)) (dVar 1) (dCB φLen (dCons (dVar 0) dNil))))) dNever dNext)
abbrev k_check_person : Nat := 0
def p_check_person : DSp := fun args c Q => ∃ (d : PyData) (ds : List PyData) (p : Int), args = [.sh d, .sh (.int p)] ∧ PyData.its d = some ds ∧ 0 ≤ p ∧ p < (ds.length : Int) ∧ Q (.sh .none) c
theorem mon_check_person : MonF p_check_person := fun args c A B h ⟨d, ds, p, e, h1, h2, h3, q⟩ => ⟨d, ds, p, e, h1, h2, h3, h _ _ q⟩
theorem m_check_person : ∀ args c Q, p_check_person args c Q → defF k_check_person b_check_person args c Q := by
  rintro _ c Q ⟨d, ds, p, rfl, h1, h2, h3, q⟩
  show b_check_person _ ⟨[.sh d, .sh (.int p)], c⟩
  unfold b_check_person
  try dsimp only [dVar_, gv_sh, gv_ow, gv_bx, gv_raw, gv_st, dC, dRaw, dOp, dUn, dTest, dTruth, dAnd, dOr, dNot, dYes, dIf, dAndV, dOrV, dNotV, dNotT, dChain, dNil, dCons, dTup, dLst, dats, dCB, dNoP, dPart, dSl, dNext, dBreak, dCont, dNever, dDrop, dRet, dRetN, dIfS, dSetG, dPar, dPar3, dAppend, dAppPop, dSetIx, dExt, dAug, dSet0, dSAdd, dSNotIn, dIter_, gi_l, gi_t, gi_b, dRng1, dRng2, dName, dGNil, dGCons, dGTup, dAsg, dFor, dWhile, dCall, dCallR, dArgs_, ga_f, ga_t, argsOf, dLc, wipeE, dListRg, dIndex, dSortSet, dSortSc, dEnum, dZip, dIsi, dIsi2, isaT, φI, φB, φC, φNeg, add_i, add_l, add_t, mul_i, mul_l, φIx, sl_l, sl_t, eq_i, eq_s, eq_l, eq_t, eq_b, eq_n, φIsN, isN_n, isN_b, isN_i, isN_s, isN_l, isN_t, φLen, φList, φTuple, φAbs, φInt, φMax, φIsB, its_l, its_t, rd_sh, rd_nw, rd_br, rp_sh, rp_nw, rp_br, rp_bx, rp_raw, rp_sr, rr_sh, rr_nw, rr_br, ra_sh, ra_br, ra_bx, ra_raw, va_sh, va_nt, va_nf, va_raw, hb_n, hb_sh, hb_bx, hb_raw, hb_br, sh_n, sh_c, tr_n, tr_b, tr_i, tr_l, tr_t, ty_n, ty_b, ty_i, ty_s, ty_l, ty_t, if_ff, if_tt, Env.set, List.getElem?_cons_succ, List.getElem?_cons_zero, List.set_cons_succ, List.set_cons_zero, List.reverse_cons, List.reverse_nil, List.nil_append, List.cons_append, Option.bind_some, ite_true, ite_false]
  rw [h1]
  exact it_t h2 (in_f h3 q)
/-! ### route_from -/
def ofO : Option Int → PyData
  | none => .none
  | some z => .int z
def dO (os : List (Option Int)) : List PyData := os.map ofO
def gO (os : List (Option Int)) (p : Int) : Option Int := os.getD p.toNat none
def routeOG (os : List (Option Int)) : Nat → List Int → Option Int → List Int
  | 0, acc, _ => acc
  | _ + 1, acc, none => acc
  | k + 1, acc, some z => if z ∈ acc then acc else routeOG os k (acc ++ [z]) (gO os z)
def routeO (os : List (Option Int)) (p : Int) : List Int := routeOG os (os.length + 1) [] (some p)
def LowO (n : Nat) (os : List (Option Int)) : Prop := ∀ z, some z ∈ os → 0 ≤ z ∧ z < (n : Int)
theorem dO_len (os : List (Option Int)) : (dO os).length = os.length := List.length_map ..
theorem gO_at {os : List (Option Int)} {p : Int} (h0 : 0 ≤ p) (h1 : p < (os.length : Int)) : atI (dO os) p = some (ofO (gO os p)) := by
  rw [atI_nat h0 (by rw [dO_len]; exact h1)]
  unfold dO gO
  rw [List.getElem?_map, List.getD_eq_getElem?_getD, List.getElem?_eq_getElem (by omega)]; rfl
theorem gO_low {n : Nat} {os : List (Option Int)} (lo : LowO n os) {p z : Int} (h1 : p < (os.length : Int)) (h0 : 0 ≤ p) (e : gO os p = some z) : 0 ≤ z ∧ z < (n : Int) := by
  refine lo z ?_
  unfold gO at e
  rw [List.getD_eq_getElem?_getD, List.getElem?_eq_getElem (show p.toNat < os.length by omega)] at e
  rw [← show _ = some z from e]; exact List.getElem_mem _
theorem dO_ints (ns : List Int) : dO (ns.map some) = dI ns := by
  unfold dO
  show _ = ns.map _
  rw [List.map_map]; rfl
theorem LowO.of {n : Nat} {ns : List Int} (lo : Low n ns) : LowO n (ns.map some) := fun z hz => by
  obtain ⟨y, hy, e⟩ := List.mem_map.mp hz
  cases e
  exact lo z hy
theorem gO_some {ns : List Int} {p : Int} (h0 : 0 ≤ p) (h1 : p < (ns.length : Int)) : gO (ns.map some) p = some (gt ns p) := by
  unfold gO gt
  rw [List.getD_eq_getElem?_getD, List.getD_eq_getElem?_getD, List.getElem?_map, List.getElem?_eq_getElem (show p.toNat < ns.length by omega)]; rfl
theorem routeOG_some {ns : List Int} (lo : Low ns.length ns) : ∀ (k : Nat) (acc : List Int) (p : Int), 0 ≤ p → p < (ns.length : Int) → routeOG (ns.map some) k acc (some p) = routeG ns k acc p
  | 0, _, _, _, _ => rfl
  | k + 1, acc, p, h0, h1 => by
    unfold routeOG routeG
    rw [gO_some h0 h1]
    have := gt_low lo h0 h1
    rw [routeOG_some lo k _ _ this.1 this.2]
theorem routeO_some {ns : List Int} (lo : Low ns.length ns) {p : Int} (h0 : 0 ≤ p) (h1 : p < (ns.length : Int)) : routeO (ns.map some) p = routeF ns p := by
  unfold routeO routeF
  rw [List.length_map]
  exact routeOG_some lo _ _ _ h0 h1
/-- route_from: pointers, person, route, seen, at -/
def b_route_from : DTS := (dSeq (dSetG true 2 (dLst dNil))
  (dSeq (dSet0 3)
  (dSeq (dSetG false 4 (dVar 1))
  (dSeq (dWhile (dAnd (dTest (dOp (φIsN true) (dVar 4) (dC .none))) (dTest (dSNotIn (dVar 4) (dVar 3)))) (dSeq (dSAdd 3 (dVar 4))
  (dSeq (dAppend 2 (dVar 4))
  (dSetG false 4 (dOp φIx (dVar 0) (dVar 4))))))
  (dRet (dVar 2))))))
abbrev k_route_from : Nat := 3
def p_route_from : DSp := fun args c Q => ∃ (d : PyData) (os : List (Option Int)) (p : Int), args = [.sh d, .sh (.int p)] ∧ PyData.its d = some (dO os) ∧ LowO os.length os ∧ os.length ≤ 1000 ∧ 0 ≤ p ∧ p < (os.length : Int) ∧ Q (.nw (dI (routeO os p))) c
theorem mon_route_from : MonF p_route_from := fun args c A B h ⟨d, os, p, e, h1, h2, h3, h4, h5, q⟩ => ⟨d, os, p, e, h1, h2, h3, h4, h5, h _ _ q⟩
theorem route_loop {d : PyData} {os : List (Option Int)} (hd : PyData.its d = some (dO os)) (lo : LowO os.length os) (le : os.length ≤ 1000) {x : SV} {c : Nat} {Δ : DEnds} :
    ∀ (k : Nat) (acc : List Int) (at_ : Option Int), acc.Nodup → Low os.length acc → (∀ z, at_ = some z → 0 ≤ z ∧ z < (os.length : Int)) → os.length < k + acc.length →
      (∀ S n y, Δ.nx ⟨[.sh d, x, .ow (dI (routeOG os k acc at_)), .st S n, y], c⟩) →
      whileN (dAnd (dTest (dOp (φIsN true) (dVar 4) (dC .none))) (dTest (dSNotIn (dVar 4) (dVar 3)))) (dSeq (dSAdd 3 (dVar 4)) (dSeq (dAppend 2 (dVar 4)) (dSetG false 4 (dOp φIx (dVar 0) (dVar 4))))) Δ (k + 1) ⟨[.sh d, x, .ow (dI acc), .st (fun j => decide (j ∈ acc)) acc.length, .sh (ofO at_)], c⟩
  | 0, acc, at_, nd, la, _, hk, _ => by
    have := low_len os.length acc nd la
    omega
  | k + 1, acc, none, nd, la, _, hk, q => by
    unfold whileN
    dsimp only [ofO]
    try dsimp only [dVar_, gv_sh, gv_ow, gv_bx, gv_raw, gv_st, dC, dRaw, dOp, dUn, dTest, dTruth, dAnd, dOr, dNot, dYes, dIf, dAndV, dOrV, dNotV, dNotT, dChain, dNil, dCons, dTup, dLst, dats, dCB, dNoP, dPart, dSl, dNext, dBreak, dCont, dNever, dDrop, dRet, dRetN, dIfS, dSetG, dPar, dPar3, dAppend, dAppPop, dSetIx, dExt, dAug, dSet0, dSAdd, dSNotIn, dIter_, gi_l, gi_t, gi_b, dRng1, dRng2, dName, dGNil, dGCons, dGTup, dAsg, dFor, dWhile, dCall, dCallR, dArgs_, ga_f, ga_t, argsOf, dLc, wipeE, dListRg, dIndex, dSortSet, dSortSc, dEnum, dZip, dIsi, dIsi2, isaT, φI, φB, φC, φNeg, add_i, add_l, add_t, mul_i, mul_l, φIx, sl_l, sl_t, eq_i, eq_s, eq_l, eq_t, eq_b, eq_n, φIsN, isN_n, isN_b, isN_i, isN_s, isN_l, isN_t, φLen, φList, φTuple, φAbs, φInt, φMax, φIsB, its_l, its_t, rd_sh, rd_nw, rd_br, rp_sh, rp_nw, rp_br, rp_bx, rp_raw, rp_sr, rr_sh, rr_nw, rr_br, ra_sh, ra_br, ra_bx, ra_raw, va_sh, va_nt, va_nf, va_raw, hb_n, hb_sh, hb_bx, hb_raw, hb_br, sh_n, sh_c, tr_n, tr_b, tr_i, tr_l, tr_t, ty_n, ty_b, ty_i, ty_s, ty_l, ty_t, if_ff, if_tt, Env.set, List.getElem?_cons_succ, List.getElem?_cons_zero, List.set_cons_succ, List.set_cons_zero, List.reverse_cons, List.reverse_nil, List.nil_append, List.cons_append, Option.bind_some, ite_true, ite_false]
    exact q _ _ _
  | k + 1, acc, some z, nd, la, hz, hk, q => by
    unfold whileN
    dsimp only [ofO]
    try dsimp only [dVar_, gv_sh, gv_ow, gv_bx, gv_raw, gv_st, dC, dRaw, dOp, dUn, dTest, dTruth, dAnd, dOr, dNot, dYes, dIf, dAndV, dOrV, dNotV, dNotT, dChain, dNil, dCons, dTup, dLst, dats, dCB, dNoP, dPart, dSl, dNext, dBreak, dCont, dNever, dDrop, dRet, dRetN, dIfS, dSetG, dPar, dPar3, dAppend, dAppPop, dSetIx, dExt, dAug, dSet0, dSAdd, dSNotIn, dIter_, gi_l, gi_t, gi_b, dRng1, dRng2, dName, dGNil, dGCons, dGTup, dAsg, dFor, dWhile, dCall, dCallR, dArgs_, ga_f, ga_t, argsOf, dLc, wipeE, dListRg, dIndex, dSortSet, dSortSc, dEnum, dZip, dIsi, dIsi2, isaT, φI, φB, φC, φNeg, add_i, add_l, add_t, mul_i, mul_l, φIx, sl_l, sl_t, eq_i, eq_s, eq_l, eq_t, eq_b, eq_n, φIsN, isN_n, isN_b, isN_i, isN_s, isN_l, isN_t, φLen, φList, φTuple, φAbs, φInt, φMax, φIsB, its_l, its_t, rd_sh, rd_nw, rd_br, rp_sh, rp_nw, rp_br, rp_bx, rp_raw, rp_sr, rr_sh, rr_nw, rr_br, ra_sh, ra_br, ra_bx, ra_raw, va_sh, va_nt, va_nf, va_raw, hb_n, hb_sh, hb_bx, hb_raw, hb_br, sh_n, sh_c, tr_n, tr_b, tr_i, tr_l, tr_t, ty_n, ty_b, ty_i, ty_s, ty_l, ty_t, if_ff, if_tt, Env.set, List.getElem?_cons_succ, List.getElem?_cons_zero, List.set_cons_succ, List.set_cons_zero, List.reverse_cons, List.reverse_nil, List.nil_append, List.cons_append, Option.bind_some, ite_true, ite_false]
    unfold routeOG at q
    obtain ⟨z0, z1⟩ := hz z rfl
    have hl := low_len os.length acc nd la
    by_cases hm : z ∈ acc
    · rw [if_pos hm] at q
      refine in_f hm ?_
      exact q _ _ _
    · rw [if_neg hm] at q
      refine in_t hm ?_
      refine sq_ ?_
      try dsimp only [dVar_, gv_sh, gv_ow, gv_bx, gv_raw, gv_st, dC, dRaw, dOp, dUn, dTest, dTruth, dAnd, dOr, dNot, dYes, dIf, dAndV, dOrV, dNotV, dNotT, dChain, dNil, dCons, dTup, dLst, dats, dCB, dNoP, dPart, dSl, dNext, dBreak, dCont, dNever, dDrop, dRet, dRetN, dIfS, dSetG, dPar, dPar3, dAppend, dAppPop, dSetIx, dExt, dAug, dSet0, dSAdd, dSNotIn, dIter_, gi_l, gi_t, gi_b, dRng1, dRng2, dName, dGNil, dGCons, dGTup, dAsg, dFor, dWhile, dCall, dCallR, dArgs_, ga_f, ga_t, argsOf, dLc, wipeE, dListRg, dIndex, dSortSet, dSortSc, dEnum, dZip, dIsi, dIsi2, isaT, φI, φB, φC, φNeg, add_i, add_l, add_t, mul_i, mul_l, φIx, sl_l, sl_t, eq_i, eq_s, eq_l, eq_t, eq_b, eq_n, φIsN, isN_n, isN_b, isN_i, isN_s, isN_l, isN_t, φLen, φList, φTuple, φAbs, φInt, φMax, φIsB, its_l, its_t, rd_sh, rd_nw, rd_br, rp_sh, rp_nw, rp_br, rp_bx, rp_raw, rp_sr, rr_sh, rr_nw, rr_br, ra_sh, ra_br, ra_bx, ra_raw, va_sh, va_nt, va_nf, va_raw, hb_n, hb_sh, hb_bx, hb_raw, hb_br, sh_n, sh_c, tr_n, tr_b, tr_i, tr_l, tr_t, ty_n, ty_b, ty_i, ty_s, ty_l, ty_t, if_ff, if_tt, Env.set, List.getElem?_cons_succ, List.getElem?_cons_zero, List.set_cons_succ, List.set_cons_zero, List.reverse_cons, List.reverse_nil, List.nil_append, List.cons_append, Option.bind_some, ite_true, ite_false]
      refine ⟨show acc.length + 1 < 4096 by omega, ?_⟩
      refine sq_ ?_
      try dsimp only [dVar_, gv_sh, gv_ow, gv_bx, gv_raw, gv_st, dC, dRaw, dOp, dUn, dTest, dTruth, dAnd, dOr, dNot, dYes, dIf, dAndV, dOrV, dNotV, dNotT, dChain, dNil, dCons, dTup, dLst, dats, dCB, dNoP, dPart, dSl, dNext, dBreak, dCont, dNever, dDrop, dRet, dRetN, dIfS, dSetG, dPar, dPar3, dAppend, dAppPop, dSetIx, dExt, dAug, dSet0, dSAdd, dSNotIn, dIter_, gi_l, gi_t, gi_b, dRng1, dRng2, dName, dGNil, dGCons, dGTup, dAsg, dFor, dWhile, dCall, dCallR, dArgs_, ga_f, ga_t, argsOf, dLc, wipeE, dListRg, dIndex, dSortSet, dSortSc, dEnum, dZip, dIsi, dIsi2, isaT, φI, φB, φC, φNeg, add_i, add_l, add_t, mul_i, mul_l, φIx, sl_l, sl_t, eq_i, eq_s, eq_l, eq_t, eq_b, eq_n, φIsN, isN_n, isN_b, isN_i, isN_s, isN_l, isN_t, φLen, φList, φTuple, φAbs, φInt, φMax, φIsB, its_l, its_t, rd_sh, rd_nw, rd_br, rp_sh, rp_nw, rp_br, rp_bx, rp_raw, rp_sr, rr_sh, rr_nw, rr_br, ra_sh, ra_br, ra_bx, ra_raw, va_sh, va_nt, va_nf, va_raw, hb_n, hb_sh, hb_bx, hb_raw, hb_br, sh_n, sh_c, tr_n, tr_b, tr_i, tr_l, tr_t, ty_n, ty_b, ty_i, ty_s, ty_l, ty_t, if_ff, if_tt, Env.set, List.getElem?_cons_succ, List.getElem?_cons_zero, List.set_cons_succ, List.set_cons_zero, List.reverse_cons, List.reverse_nil, List.nil_append, List.cons_append, Option.bind_some, ite_true, ite_false]
      refine ⟨show (dI acc).length < 16777216 by rw [dI_len]; omega, ?_⟩
      rw [hd]
      refine ⟨_, gO_at z0 z1, ?_⟩
      rw [dI_snoc, show (fun j => decide (j ∈ acc) || decide (j = z)) = fun j => decide (j ∈ acc ++ [z]) by funext j; simp]
      have e : (if decide (z ∈ acc) = true then acc.length else acc.length + 1) = (acc ++ [z]).length := by rw [if_neg (by simp [hm]), List.length_append]; rfl
      rw [e]
      refine route_loop hd lo le k (acc ++ [z]) (gO os z) (Nodup.snoc nd hm) ?_ ?_ (by rw [List.length_append]; show os.length < k + (acc.length + 1); omega) q
      · intro y hy
        rcases List.mem_append.mp hy with h | h
        · exact la y h
        · rw [List.mem_singleton.mp h]; exact ⟨z0, z1⟩
      · intro y hy
        exact gO_low lo z1 z0 hy
theorem m_route_from : ∀ args c Q, p_route_from args c Q → defF k_route_from b_route_from args c Q := by
  rintro _ c Q ⟨d, os, p, rfl, h1, h2, h3, h4, h5, q⟩
  show b_route_from _ ⟨[.sh d, .sh (.int p), .un, .un, .un], c⟩
  unfold b_route_from
  refine sq_ ?_
  try dsimp only [dVar_, gv_sh, gv_ow, gv_bx, gv_raw, gv_st, dC, dRaw, dOp, dUn, dTest, dTruth, dAnd, dOr, dNot, dYes, dIf, dAndV, dOrV, dNotV, dNotT, dChain, dNil, dCons, dTup, dLst, dats, dCB, dNoP, dPart, dSl, dNext, dBreak, dCont, dNever, dDrop, dRet, dRetN, dIfS, dSetG, dPar, dPar3, dAppend, dAppPop, dSetIx, dExt, dAug, dSet0, dSAdd, dSNotIn, dIter_, gi_l, gi_t, gi_b, dRng1, dRng2, dName, dGNil, dGCons, dGTup, dAsg, dFor, dWhile, dCall, dCallR, dArgs_, ga_f, ga_t, argsOf, dLc, wipeE, dListRg, dIndex, dSortSet, dSortSc, dEnum, dZip, dIsi, dIsi2, isaT, φI, φB, φC, φNeg, add_i, add_l, add_t, mul_i, mul_l, φIx, sl_l, sl_t, eq_i, eq_s, eq_l, eq_t, eq_b, eq_n, φIsN, isN_n, isN_b, isN_i, isN_s, isN_l, isN_t, φLen, φList, φTuple, φAbs, φInt, φMax, φIsB, its_l, its_t, rd_sh, rd_nw, rd_br, rp_sh, rp_nw, rp_br, rp_bx, rp_raw, rp_sr, rr_sh, rr_nw, rr_br, ra_sh, ra_br, ra_bx, ra_raw, va_sh, va_nt, va_nf, va_raw, hb_n, hb_sh, hb_bx, hb_raw, hb_br, sh_n, sh_c, tr_n, tr_b, tr_i, tr_l, tr_t, ty_n, ty_b, ty_i, ty_s, ty_l, ty_t, if_ff, if_tt, Env.set, List.getElem?_cons_succ, List.getElem?_cons_zero, List.set_cons_succ, List.set_cons_zero, List.reverse_cons, List.reverse_nil, List.nil_append, List.cons_append, Option.bind_some, ite_true, ite_false]
  refine sq_ ?_
  try dsimp only [dVar_, gv_sh, gv_ow, gv_bx, gv_raw, gv_st, dC, dRaw, dOp, dUn, dTest, dTruth, dAnd, dOr, dNot, dYes, dIf, dAndV, dOrV, dNotV, dNotT, dChain, dNil, dCons, dTup, dLst, dats, dCB, dNoP, dPart, dSl, dNext, dBreak, dCont, dNever, dDrop, dRet, dRetN, dIfS, dSetG, dPar, dPar3, dAppend, dAppPop, dSetIx, dExt, dAug, dSet0, dSAdd, dSNotIn, dIter_, gi_l, gi_t, gi_b, dRng1, dRng2, dName, dGNil, dGCons, dGTup, dAsg, dFor, dWhile, dCall, dCallR, dArgs_, ga_f, ga_t, argsOf, dLc, wipeE, dListRg, dIndex, dSortSet, dSortSc, dEnum, dZip, dIsi, dIsi2, isaT, φI, φB, φC, φNeg, add_i, add_l, add_t, mul_i, mul_l, φIx, sl_l, sl_t, eq_i, eq_s, eq_l, eq_t, eq_b, eq_n, φIsN, isN_n, isN_b, isN_i, isN_s, isN_l, isN_t, φLen, φList, φTuple, φAbs, φInt, φMax, φIsB, its_l, its_t, rd_sh, rd_nw, rd_br, rp_sh, rp_nw, rp_br, rp_bx, rp_raw, rp_sr, rr_sh, rr_nw, rr_br, ra_sh, ra_br, ra_bx, ra_raw, va_sh, va_nt, va_nf, va_raw, hb_n, hb_sh, hb_bx, hb_raw, hb_br, sh_n, sh_c, tr_n, tr_b, tr_i, tr_l, tr_t, ty_n, ty_b, ty_i, ty_s, ty_l, ty_t, if_ff, if_tt, Env.set, List.getElem?_cons_succ, List.getElem?_cons_zero, List.set_cons_succ, List.set_cons_zero, List.reverse_cons, List.reverse_nil, List.nil_append, List.cons_append, Option.bind_some, ite_true, ite_false]
  refine sq_ ?_
  try dsimp only [dVar_, gv_sh, gv_ow, gv_bx, gv_raw, gv_st, dC, dRaw, dOp, dUn, dTest, dTruth, dAnd, dOr, dNot, dYes, dIf, dAndV, dOrV, dNotV, dNotT, dChain, dNil, dCons, dTup, dLst, dats, dCB, dNoP, dPart, dSl, dNext, dBreak, dCont, dNever, dDrop, dRet, dRetN, dIfS, dSetG, dPar, dPar3, dAppend, dAppPop, dSetIx, dExt, dAug, dSet0, dSAdd, dSNotIn, dIter_, gi_l, gi_t, gi_b, dRng1, dRng2, dName, dGNil, dGCons, dGTup, dAsg, dFor, dWhile, dCall, dCallR, dArgs_, ga_f, ga_t, argsOf, dLc, wipeE, dListRg, dIndex, dSortSet, dSortSc, dEnum, dZip, dIsi, dIsi2, isaT, φI, φB, φC, φNeg, add_i, add_l, add_t, mul_i, mul_l, φIx, sl_l, sl_t, eq_i, eq_s, eq_l, eq_t, eq_b, eq_n, φIsN, isN_n, isN_b, isN_i, isN_s, isN_l, isN_t, φLen, φList, φTuple, φAbs, φInt, φMax, φIsB, its_l, its_t, rd_sh, rd_nw, rd_br, rp_sh, rp_nw, rp_br, rp_bx, rp_raw, rp_sr, rr_sh, rr_nw, rr_br, ra_sh, ra_br, ra_bx, ra_raw, va_sh, va_nt, va_nf, va_raw, hb_n, hb_sh, hb_bx, hb_raw, hb_br, sh_n, sh_c, tr_n, tr_b, tr_i, tr_l, tr_t, ty_n, ty_b, ty_i, ty_s, ty_l, ty_t, if_ff, if_tt, Env.set, List.getElem?_cons_succ, List.getElem?_cons_zero, List.set_cons_succ, List.set_cons_zero, List.reverse_cons, List.reverse_nil, List.nil_append, List.cons_append, Option.bind_some, ite_true, ite_false]
  refine sq_ ?_
  try dsimp only [dVar_, gv_sh, gv_ow, gv_bx, gv_raw, gv_st, dC, dRaw, dOp, dUn, dTest, dTruth, dAnd, dOr, dNot, dYes, dIf, dAndV, dOrV, dNotV, dNotT, dChain, dNil, dCons, dTup, dLst, dats, dCB, dNoP, dPart, dSl, dNext, dBreak, dCont, dNever, dDrop, dRet, dRetN, dIfS, dSetG, dPar, dPar3, dAppend, dAppPop, dSetIx, dExt, dAug, dSet0, dSAdd, dSNotIn, dIter_, gi_l, gi_t, gi_b, dRng1, dRng2, dName, dGNil, dGCons, dGTup, dAsg, dFor, dWhile, dCall, dCallR, dArgs_, ga_f, ga_t, argsOf, dLc, wipeE, dListRg, dIndex, dSortSet, dSortSc, dEnum, dZip, dIsi, dIsi2, isaT, φI, φB, φC, φNeg, add_i, add_l, add_t, mul_i, mul_l, φIx, sl_l, sl_t, eq_i, eq_s, eq_l, eq_t, eq_b, eq_n, φIsN, isN_n, isN_b, isN_i, isN_s, isN_l, isN_t, φLen, φList, φTuple, φAbs, φInt, φMax, φIsB, its_l, its_t, rd_sh, rd_nw, rd_br, rp_sh, rp_nw, rp_br, rp_bx, rp_raw, rp_sr, rr_sh, rr_nw, rr_br, ra_sh, ra_br, ra_bx, ra_raw, va_sh, va_nt, va_nf, va_raw, hb_n, hb_sh, hb_bx, hb_raw, hb_br, sh_n, sh_c, tr_n, tr_b, tr_i, tr_l, tr_t, ty_n, ty_b, ty_i, ty_s, ty_l, ty_t, if_ff, if_tt, Env.set, List.getElem?_cons_succ, List.getElem?_cons_zero, List.set_cons_succ, List.set_cons_zero, List.reverse_cons, List.reverse_nil, List.nil_append, List.cons_append, Option.bind_some, ite_true, ite_false]
  refine ⟨os.length + 1 + 1, route_loop h1 h2 h3 (os.length + 1) [] (some p) List.nodup_nil (fun _ h => nomatch h) (fun z h => by cases h; exact ⟨h4, h5⟩) (by show os.length < os.length + 1 + 0; omega) ?_⟩
  intro S n y
  try dsimp only [dVar_, gv_sh, gv_ow, gv_bx, gv_raw, gv_st, dC, dRaw, dOp, dUn, dTest, dTruth, dAnd, dOr, dNot, dYes, dIf, dAndV, dOrV, dNotV, dNotT, dChain, dNil, dCons, dTup, dLst, dats, dCB, dNoP, dPart, dSl, dNext, dBreak, dCont, dNever, dDrop, dRet, dRetN, dIfS, dSetG, dPar, dPar3, dAppend, dAppPop, dSetIx, dExt, dAug, dSet0, dSAdd, dSNotIn, dIter_, gi_l, gi_t, gi_b, dRng1, dRng2, dName, dGNil, dGCons, dGTup, dAsg, dFor, dWhile, dCall, dCallR, dArgs_, ga_f, ga_t, argsOf, dLc, wipeE, dListRg, dIndex, dSortSet, dSortSc, dEnum, dZip, dIsi, dIsi2, isaT, φI, φB, φC, φNeg, add_i, add_l, add_t, mul_i, mul_l, φIx, sl_l, sl_t, eq_i, eq_s, eq_l, eq_t, eq_b, eq_n, φIsN, isN_n, isN_b, isN_i, isN_s, isN_l, isN_t, φLen, φList, φTuple, φAbs, φInt, φMax, φIsB, its_l, its_t, rd_sh, rd_nw, rd_br, rp_sh, rp_nw, rp_br, rp_bx, rp_raw, rp_sr, rr_sh, rr_nw, rr_br, ra_sh, ra_br, ra_bx, ra_raw, va_sh, va_nt, va_nf, va_raw, hb_n, hb_sh, hb_bx, hb_raw, hb_br, sh_n, sh_c, tr_n, tr_b, tr_i, tr_l, tr_t, ty_n, ty_b, ty_i, ty_s, ty_l, ty_t, if_ff, if_tt, Env.set, List.getElem?_cons_succ, List.getElem?_cons_zero, List.set_cons_succ, List.set_cons_zero, List.reverse_cons, List.reverse_nil, List.nil_append, List.cons_append, Option.bind_some, ite_true, ite_false]
  exact q
/-! ### loops and comprehensions -/
theorem its_cases {d : PyData} {ds : List PyData} (h : PyData.its d = some ds) : d = .list ds ∨ d = .tuple ds := by
  cases d <;> first | (cases h; exact .inl rfl) | (cases h; exact .inr rfl) | cases h
theorem for_cons {γ : DTG} {p : DTS} {Δ : DEnds} {d : PyData} {ds : List PyData} {ε : Env} (h : γ d ε fun ε1 => p { nx := forD γ p Δ ds, rt := Δ.rt, bk := Δ.nx, ct := forD γ p Δ ds } ε1) : forD γ p Δ (d :: ds) ε := h
theorem for_nil {γ : DTG} {p : DTS} {Δ : DEnds} {ε : Env} (h : Δ.nx ε) : forD γ p Δ [] ε := h
theorem lc_cons {γ : DTG} {c : DTT} {f : DTE} {vs : List Nat} {s : List SV} {Q : R → Env → Prop} {d : PyData} {ds acc : List PyData} {n : Nat} (h : γ d ⟨wipeE ⟨s, n⟩ vs, n⟩ fun ε1 => c ε1 fun b ε2 => if b = true then f ε2 fun r ε3 => match r.pub with
      | .sh e => acc.length < sizeLine ∧ lcD γ c f vs s Q ds (acc ++ [e]) ε3.c
      | _ => False
    else lcD γ c f vs s Q ds acc ε2.c) : lcD γ c f vs s Q (d :: ds) acc n := h
theorem lc_all {α : Type} {γ : DTG} {f : DTE} {vs : List Nat} {s : List SV} {Q : R → Env → Prop} {n : Nat} (h e : α → PyData) : ∀ (xs : List α) (acc : List PyData),
    (∀ x ∈ xs, ∀ K : R → Env → Prop, (∀ r ε, r.pub = .sh (e x) → ε.c = n → K r ε) → γ (h x) ⟨wipeE ⟨s, n⟩ vs, n⟩ fun ε1 => f ε1 K) →
    acc.length + xs.length ≤ 16777216 → Q (.nw (acc ++ xs.map e)) ⟨s, n⟩ → lcD γ dYes f vs s Q (xs.map h) acc n
  | [], acc, _, _, q => by
    rw [List.map_nil, List.append_nil] at q
    exact q
  | x :: xs, acc, st, le, q => by
    rw [List.length_cons] at le
    rw [List.map_cons]
    refine lc_cons ?_
    refine st x List.mem_cons_self (fun r ε3 => match r.pub with
      | .sh e => acc.length < sizeLine ∧ lcD γ dYes f vs s Q (xs.map h) (acc ++ [e]) ε3.c
      | _ => False) fun r ε hr hc => ?_
    rw [hr, hc]
    refine ⟨show acc.length < 16777216 by omega, ?_⟩
    refine lc_all h e xs (acc ++ [e x]) (fun y hy => st y (List.mem_cons_of_mem _ hy)) (by rw [List.length_append, List.length_singleton]; omega) ?_
    rw [List.append_assoc]; exact q
theorem lc_if {α : Type} {γ : DTG} {c : DTT} {f : DTE} {vs : List Nat} {s : List SV} {Q : R → Env → Prop} {n : Nat} (h e : α → PyData) (k : α → Bool) : ∀ (xs : List α) (acc : List PyData),
    (∀ x ∈ xs, ∀ (Y : R → Env → Prop) (N : Env → Prop), (k x = true → ∀ r ε, r.pub = .sh (e x) → ε.c = n → Y r ε) → (k x = false → ∀ ε, ε.c = n → N ε) → γ (h x) ⟨wipeE ⟨s, n⟩ vs, n⟩ fun ε1 => c ε1 fun b ε2 => if b = true then f ε2 Y else N ε2) →
    acc.length + xs.length ≤ 16777216 → Q (.nw (acc ++ (xs.filter k).map e)) ⟨s, n⟩ → lcD γ c f vs s Q (xs.map h) acc n
  | [], acc, _, _, q => by
    rw [List.filter_nil, List.map_nil, List.append_nil] at q
    exact q
  | x :: xs, acc, st, le, q => by
    rw [List.length_cons] at le
    rw [List.map_cons]
    refine lc_cons ?_
    refine st x List.mem_cons_self (fun r ε3 => match r.pub with
      | .sh e => acc.length < sizeLine ∧ lcD γ c f vs s Q (xs.map h) (acc ++ [e]) ε3.c
      | _ => False) (fun ε => lcD γ c f vs s Q (xs.map h) acc ε.c) (fun hk r ε hr hc => ?_) fun hk ε hc => ?_
    · rw [hr, hc]
      refine ⟨show acc.length < 16777216 by omega, ?_⟩
      refine lc_if h e k xs (acc ++ [e x]) (fun y hy => st y (List.mem_cons_of_mem _ hy)) (by rw [List.length_append, List.length_singleton]; omega) ?_
      rw [List.filter_cons_of_pos hk, List.map_cons] at q
      rw [List.append_assoc]; exact q
    · rw [hc]
      refine lc_if h e k xs acc (fun y hy => st y (List.mem_cons_of_mem _ hy)) (by omega) ?_
      rw [List.filter_cons_of_neg (by rw [hk]; exact fun z => nomatch z)] at q
      exact q
theorem sc_all {α : Type} {γ : DTG} {f : DTE} {vs : List Nat} {s : List SV} {Q : R → Env → Prop} {n : Nat} (h : α → PyData) (e : α → List Int) : ∀ (xs : List α) (acc : List (List Int)),
    (∀ x ∈ xs, e x ≠ [] ∧ ∀ K : R → Env → Prop, (∀ ε, ε.c = n → K (.sh (.tuple (dI (e x)))) ε) → γ (h x) ⟨wipeE ⟨s, n⟩ vs, n⟩ fun ε1 => f ε1 K) →
    acc.length + xs.length < 64 → (∀ RS, Asc (acc ++ xs.map e) RS → Q (.nw (dT RS)) ⟨s, n⟩) → scD γ f vs s Q (xs.map h) acc n
  | [], acc, _, _, q => by
    rw [List.map_nil, List.append_nil] at q
    exact q
  | x :: xs, acc, st, le, q => by
    rw [List.length_cons] at le
    rw [List.map_cons]
    obtain ⟨ne, st1⟩ := st x List.mem_cons_self
    unfold scD
    refine st1 _ fun ε hc => ?_
    dsimp only
    rw [intsD_dI, hc]
    cases ex : e x with
    | nil => exact absurd ex ne
    | cons y ys =>
      refine ⟨by omega, ?_⟩
      refine sc_all h e xs (acc ++ [y :: ys]) (fun y hy => st y (List.mem_cons_of_mem _ hy)) (by rw [List.length_append, List.length_singleton]; omega) ?_
      rw [← ex, List.append_assoc]; exact q
theorem for_fold {α β τ : Type} {γ : DTG} {p : DTS} {Δ : DEnds} (h : α → PyData) (E : β → τ → Env) (g : β → α → β) : ∀ (xs : List α) (b : β) (y : τ),
    (∀ x ∈ xs, ∀ (b : β) (y : τ) (D : Env → Prop), (∀ y, D (E (g b x) y)) → γ (h x) (E b y) fun ε1 => p { nx := D, rt := Δ.rt, bk := Δ.nx, ct := D } ε1) →
    (∀ y, Δ.nx (E (xs.foldl g b) y)) → forD γ p Δ (xs.map h) (E b y)
  | [], b, y, _, q => q y
  | x :: xs, b, y, st, q => by
    rw [List.map_cons]
    exact for_cons (st x List.mem_cons_self b y _ fun y => for_fold h E g xs (g b x) y (fun z hz => st z (List.mem_cons_of_mem _ hz)) q)
/-! ### turned -/
def rq (b : Bool) (ns : List Int) : R := match b with
  | true => .nw (dI ns)
  | false => .sh (.tuple (dI ns))
def turnTo (ms : List Int) (z : Int) : List Int := ms.drop (ms.idxOf z) ++ ms.take (ms.idxOf z)
theorem turnTo_len (ms : List Int) (z : Int) : (turnTo ms z).length = ms.length := by
  unfold turnTo
  rw [List.length_append, List.length_drop, List.length_take]; omega
/-- turned: members, first, at -/
def b_turned : DTS := (dSeq (dSetG false 2 (dIndex (dVar 0) (dVar 1)))
  (dRet (dOp φAdd (dSl φSl (dVar 0) (dPart (dVar 2)) dNoP) (dSl φSl (dVar 0) dNoP (dPart (dVar 2))))))
abbrev k_turned : Nat := 1
def p_turned : DSp := fun args c Q => ∃ (b : Bool) (ms : List Int) (z : Int), args = [.sh (sq b ms), .sh (.int z)] ∧ z ∈ ms ∧ ms.length ≤ 1000000 ∧ Q (rq b (turnTo ms z)) c
theorem mon_turned : MonF p_turned := fun args c A B h ⟨d, os, p, e, h1, h2, q⟩ => ⟨d, os, p, e, h1, h2, h _ _ q⟩
theorem m_turned : ∀ args c Q, p_turned args c Q → defF k_turned b_turned args c Q := by
  rintro _ c Q ⟨b, ms, z, rfl, h1, h2, q⟩
  have hl : ((dI ms).drop (ms.idxOf z)).length + ((dI ms).take (ms.idxOf z)).length ≤ 16777216 := by
    rw [List.length_drop, List.length_take, dI_len]; omega
  have e : (dI ms).drop (ms.idxOf z) ++ (dI ms).take (ms.idxOf z) = dI (turnTo ms z) := by rw [dI_drop, dI_take, dI_app]; rfl
  cases b with
  | true =>
    show b_turned _ ⟨[.sh (.list (dI ms)), .sh (.int z), .un], c⟩
    refine sq_ ?_
    try dsimp only [dVar_, gv_sh, gv_ow, gv_bx, gv_raw, gv_st, dC, dRaw, dOp, dUn, dTest, dTruth, dAnd, dOr, dNot, dYes, dIf, dAndV, dOrV, dNotV, dNotT, dChain, dNil, dCons, dTup, dLst, dats, dCB, dNoP, dPart, dSl, dNext, dBreak, dCont, dNever, dDrop, dRet, dRetN, dIfS, dSetG, dPar, dPar3, dAppend, dAppPop, dSetIx, dExt, dAug, dSet0, dSAdd, dSNotIn, dIter_, gi_l, gi_t, gi_b, dRng1, dRng2, dName, dGNil, dGCons, dGTup, dAsg, dFor, dWhile, dCall, dCallR, dArgs_, ga_f, ga_t, argsOf, dLc, wipeE, dListRg, dIndex, dSortSet, dSortSc, dEnum, dZip, dIsi, dIsi2, isaT, φI, φB, φC, φNeg, add_i, add_l, add_t, mul_i, mul_l, φIx, sl_l, sl_t, eq_i, eq_s, eq_l, eq_t, eq_b, eq_n, φIsN, isN_n, isN_b, isN_i, isN_s, isN_l, isN_t, φLen, φList, φTuple, φAbs, φInt, φMax, φIsB, its_l, its_t, rd_sh, rd_nw, rd_br, rp_sh, rp_nw, rp_br, rp_bx, rp_raw, rp_sr, rr_sh, rr_nw, rr_br, ra_sh, ra_br, ra_bx, ra_raw, va_sh, va_nt, va_nf, va_raw, hb_n, hb_sh, hb_bx, hb_raw, hb_br, sh_n, sh_c, tr_n, tr_b, tr_i, tr_l, tr_t, ty_n, ty_b, ty_i, ty_s, ty_l, ty_t, if_ff, if_tt, Env.set, List.getElem?_cons_succ, List.getElem?_cons_zero, List.set_cons_succ, List.set_cons_zero, List.reverse_cons, List.reverse_nil, List.nil_append, List.cons_append, Option.bind_some, ite_true, ite_false]
    rw [intsD_dI]
    refine ⟨h1, ?_⟩
    rw [cutD_from _ _ (Int.natCast_nonneg _), cutD_to _ _ (Int.natCast_nonneg _), Int.toNat_natCast, e]
    exact ⟨hl, q⟩
  | false =>
    show b_turned _ ⟨[.sh (.tuple (dI ms)), .sh (.int z), .un], c⟩
    refine sq_ ?_
    try dsimp only [dVar_, gv_sh, gv_ow, gv_bx, gv_raw, gv_st, dC, dRaw, dOp, dUn, dTest, dTruth, dAnd, dOr, dNot, dYes, dIf, dAndV, dOrV, dNotV, dNotT, dChain, dNil, dCons, dTup, dLst, dats, dCB, dNoP, dPart, dSl, dNext, dBreak, dCont, dNever, dDrop, dRet, dRetN, dIfS, dSetG, dPar, dPar3, dAppend, dAppPop, dSetIx, dExt, dAug, dSet0, dSAdd, dSNotIn, dIter_, gi_l, gi_t, gi_b, dRng1, dRng2, dName, dGNil, dGCons, dGTup, dAsg, dFor, dWhile, dCall, dCallR, dArgs_, ga_f, ga_t, argsOf, dLc, wipeE, dListRg, dIndex, dSortSet, dSortSc, dEnum, dZip, dIsi, dIsi2, isaT, φI, φB, φC, φNeg, add_i, add_l, add_t, mul_i, mul_l, φIx, sl_l, sl_t, eq_i, eq_s, eq_l, eq_t, eq_b, eq_n, φIsN, isN_n, isN_b, isN_i, isN_s, isN_l, isN_t, φLen, φList, φTuple, φAbs, φInt, φMax, φIsB, its_l, its_t, rd_sh, rd_nw, rd_br, rp_sh, rp_nw, rp_br, rp_bx, rp_raw, rp_sr, rr_sh, rr_nw, rr_br, ra_sh, ra_br, ra_bx, ra_raw, va_sh, va_nt, va_nf, va_raw, hb_n, hb_sh, hb_bx, hb_raw, hb_br, sh_n, sh_c, tr_n, tr_b, tr_i, tr_l, tr_t, ty_n, ty_b, ty_i, ty_s, ty_l, ty_t, if_ff, if_tt, Env.set, List.getElem?_cons_succ, List.getElem?_cons_zero, List.set_cons_succ, List.set_cons_zero, List.reverse_cons, List.reverse_nil, List.nil_append, List.cons_append, Option.bind_some, ite_true, ite_false]
    rw [intsD_dI]
    refine ⟨h1, ?_⟩
    rw [cutD_from _ _ (Int.natCast_nonneg _), cutD_to _ _ (Int.natCast_nonneg _), Int.toNat_natCast, e]
    exact ⟨hl, q⟩
theorem dI_last {ns : List Int} {z : Int} (h : ns.getLast? = some z) : (dI ns).getLast? = some (.int z) := by
  rw [List.getLast?_map, h]; rfl
theorem φMin_dI {d : PyData} {ns : List Int} {Q : R → Prop} (hd : PyData.its d = some (dI ns)) (ne : ns ≠ []) (q : ∀ m, IsMin ns m → Q (.sh (.int m))) : φMin [d] Q := by
  have e : (PyData.its d).bind intsD = some ns := by rw [hd]; exact intsD_dI ns
  rcases its_cases hd with rfl | rfl
  · unfold φMin
    dsimp only
    rw [e]
    exact ⟨List.length_pos_iff.mpr ne, q⟩
  · unfold φMin
    dsimp only
    rw [e]
    exact ⟨List.length_pos_iff.mpr ne, q⟩
/-! ### ring_begin, ring_of, rings, height, way -/
theorem Stt.rt {ns : List Int} (h : Stt ns) {p : Int} (hp : Per ns p) : Route ns p (routeF ns p) := routeF_ok h.lo hp.1 hp.2
theorem route_low {ns : List Int} (h : Stt ns) {p : Int} (hp : Per ns p) : Low ns.length (routeF ns p) := by
  obtain ⟨L, e, nd, hin⟩ := h.rt hp
  intro z hz
  rw [e] at hz
  obtain ⟨i, _, ei⟩ := itrs_mem.mp hz
  rw [← ei]; exact itr_low h.lo hp.1 hp.2 i
theorem route_len {ns : List Int} (h : Stt ns) {p : Int} (hp : Per ns p) : 1 ≤ (routeF ns p).length ∧ (routeF ns p).length ≤ ns.length := by
  obtain ⟨L, e, nd, hin⟩ := h.rt hp
  refine ⟨?_, low_len ns.length _ nd (route_low h hp)⟩
  exact List.length_pos_iff.mpr fun z => by rw [z] at hin; cases hin
/-- the last one of a route, and whom they point at -/
theorem route_last {ns : List Int} (h : Stt ns) {p : Int} (hp : Per ns p) : ∃ l, (routeF ns p).getLast? = some l ∧ Per ns l ∧ gt ns l ∈ routeF ns p ∧ (routeF ns p).getLastD 0 = l := by
  obtain ⟨L, e, nd, hin⟩ := h.rt hp
  have l1 := (route_len h hp).1
  have hL : (routeF ns p).length = L := by rw [e, itrs_len]
  have el : (routeF ns p)[L - 1]? = some (itr ns p (L - 1)) := by rw [e]; exact itrs_get (by omega)
  have e2 : (routeF ns p).getLast? = some (itr ns p (L - 1)) := by rw [List.getLast?_eq_getElem?, hL]; exact el
  refine ⟨itr ns p (L - 1), e2, itr_low h.lo hp.1 hp.2 _, ?_, ?_⟩
  · have : gt ns (itr ns p (L - 1)) = itr ns p L := by
      have : L = L - 1 + 1 := by omega
      rw [this]; rfl
    rw [this]; exact hin
  · rw [List.getLastD_eq_getLast?, e2]; rfl
/-- ring_begin: state, route -/
def b_ring_begin : DTS := (dRet (dIndex (dVar 1) (dOp φIx (dVar 0) (dOp φIx (dVar 1) (dUn φNeg (dC (.int 1)))))))
abbrev k_ring_begin : Nat := 0
def p_ring_begin : DSp := fun args c Q => ∃ (d e : PyData) (ns : List Int) (p : Int), args = [.sh d, .sh e] ∧ PyData.its d = some (dI ns) ∧ Stt ns ∧ Per ns p ∧ PyData.its e = some (dI (routeF ns p)) ∧ Q (.sh (.int (heightF ns p : Nat))) c
theorem mon_ring_begin : MonF p_ring_begin := fun args c A B h ⟨d, e, ns, p, ea, h1, h2, h3, h4, q⟩ => ⟨d, e, ns, p, ea, h1, h2, h3, h4, h _ _ q⟩
theorem m_ring_begin : ∀ args c Q, p_ring_begin args c Q → defF k_ring_begin b_ring_begin args c Q := by
  rintro _ c Q ⟨d, e, ns, p, rfl, h1, h2, h3, h4, q⟩
  show b_ring_begin _ ⟨[.sh d, .sh e], c⟩
  unfold b_ring_begin
  try dsimp only [dVar_, gv_sh, gv_ow, gv_bx, gv_raw, gv_st, dC, dRaw, dOp, dUn, dTest, dTruth, dAnd, dOr, dNot, dYes, dIf, dAndV, dOrV, dNotV, dNotT, dChain, dNil, dCons, dTup, dLst, dats, dCB, dNoP, dPart, dSl, dNext, dBreak, dCont, dNever, dDrop, dRet, dRetN, dIfS, dSetG, dPar, dPar3, dAppend, dAppPop, dSetIx, dExt, dAug, dSet0, dSAdd, dSNotIn, dIter_, gi_l, gi_t, gi_b, dRng1, dRng2, dName, dGNil, dGCons, dGTup, dAsg, dFor, dWhile, dCall, dCallR, dArgs_, ga_f, ga_t, argsOf, dLc, wipeE, dListRg, dIndex, dSortSet, dSortSc, dEnum, dZip, dIsi, dIsi2, isaT, φI, φB, φC, φNeg, add_i, add_l, add_t, mul_i, mul_l, φIx, sl_l, sl_t, eq_i, eq_s, eq_l, eq_t, eq_b, eq_n, φIsN, isN_n, isN_b, isN_i, isN_s, isN_l, isN_t, φLen, φList, φTuple, φAbs, φInt, φMax, φIsB, its_l, its_t, rd_sh, rd_nw, rd_br, rp_sh, rp_nw, rp_br, rp_bx, rp_raw, rp_sr, rr_sh, rr_nw, rr_br, ra_sh, ra_br, ra_bx, ra_raw, va_sh, va_nt, va_nf, va_raw, hb_n, hb_sh, hb_bx, hb_raw, hb_br, sh_n, sh_c, tr_n, tr_b, tr_i, tr_l, tr_t, ty_n, ty_b, ty_i, ty_s, ty_l, ty_t, if_ff, if_tt, Env.set, List.getElem?_cons_succ, List.getElem?_cons_zero, List.set_cons_succ, List.set_cons_zero, List.reverse_cons, List.reverse_nil, List.nil_append, List.cons_append, Option.bind_some, ite_true, ite_false]
  obtain ⟨l, l1, l2, l3, l4⟩ := route_last h2 h3
  rw [h4]
  dsimp only
  rw [h1]
  refine ⟨_, atI_last (dI_last l1), ?_⟩
  dsimp only
  refine ⟨_, atI_dI l2.1 l2.2, ?_⟩
  rw [intsD_dI]
  refine ⟨l3, ?_⟩
  unfold heightF beginF at q
  rw [l4] at q
  exact q
/-- ring_of: state, person, route, members -/
def b_ring_of : DTS := (dSeq (dDrop (dCall p_check_person (dCons (dVar 0) (dCons (dVar 1) dNil))))
  (dSeq (dSetG false 2 (dCall p_route_from (dCons (dVar 0) (dCons (dVar 1) dNil))))
  (dSeq (dSetG false 3 (dSl φSl (dVar 2) (dPart (dCall p_ring_begin (dCons (dVar 0) (dCons (dVar 2) dNil)))) dNoP))
  (dRet (dCB φTuple (dCons (dCall p_turned (dCons (dVar 3) (dCons (dCB φMin (dCons (dVar 3) dNil)) dNil))) dNil))))))
abbrev k_ring_of : Nat := 2
def p_ring_of : DSp := fun args c Q => ∃ (d : PyData) (ns : List Int) (p : Int), args = [.sh d, .sh (.int p)] ∧ PyData.its d = some (dI ns) ∧ Stt ns ∧ Per ns p ∧ Q (.sh (.tuple (dI (ringF ns p)))) c
theorem mon_ring_of : MonF p_ring_of := fun args c A B h ⟨d, ns, p, ea, h1, h2, h3, q⟩ => ⟨d, ns, p, ea, h1, h2, h3, h _ _ q⟩
theorem dI_lenI (ns : List Int) : ((dI ns).length : Int) = ns.length := by rw [dI_len]
theorem c_check {d : PyData} {ns : List Int} {p : Int} {c : Nat} {Q : R → Nat → Prop} (h1 : PyData.its d = some (dI ns)) (hp : Per ns p) (q : Q (.sh .none) c) : p_check_person [.sh d, .sh (.int p)] c Q :=
  ⟨d, dI ns, p, rfl, h1, hp.1, by rw [dI_lenI]; exact hp.2, q⟩
theorem c_route {d : PyData} {ns : List Int} {p : Int} {c : Nat} {Q : R → Nat → Prop} (h1 : PyData.its d = some (dI ns)) (h2 : Stt ns) (hp : Per ns p) (q : Q (.nw (dI (routeF ns p))) c) : p_route_from [.sh d, .sh (.int p)] c Q :=
  ⟨d, ns.map some, p, rfl, by rw [dO_ints]; exact h1, by rw [List.length_map]; exact .of h2.lo, by rw [List.length_map]; exact h2.le, hp.1, by rw [List.length_map]; exact hp.2, by rw [routeO_some h2.lo hp.1 hp.2]; exact q⟩
theorem begin_lt {ns : List Int} (h : Stt ns) {p : Int} (hp : Per ns p) : heightF ns p < (routeF ns p).length := by
  obtain ⟨l, l1, l2, l3, l4⟩ := route_last h hp
  unfold heightF beginF
  rw [l4]; exact List.idxOf_lt_length_of_mem l3
theorem m_ring_of : ∀ args c Q, p_ring_of args c Q → defF k_ring_of b_ring_of args c Q := by
  rintro _ c Q ⟨d, ns, p, rfl, h1, h2, h3, q⟩
  show b_ring_of _ ⟨[.sh d, .sh (.int p), .un, .un], c⟩
  unfold b_ring_of
  refine sq_ ?_
  try dsimp only [dVar_, gv_sh, gv_ow, gv_bx, gv_raw, gv_st, dC, dRaw, dOp, dUn, dTest, dTruth, dAnd, dOr, dNot, dYes, dIf, dAndV, dOrV, dNotV, dNotT, dChain, dNil, dCons, dTup, dLst, dats, dCB, dNoP, dPart, dSl, dNext, dBreak, dCont, dNever, dDrop, dRet, dRetN, dIfS, dSetG, dPar, dPar3, dAppend, dAppPop, dSetIx, dExt, dAug, dSet0, dSAdd, dSNotIn, dIter_, gi_l, gi_t, gi_b, dRng1, dRng2, dName, dGNil, dGCons, dGTup, dAsg, dFor, dWhile, dCall, dCallR, dArgs_, ga_f, ga_t, argsOf, dLc, wipeE, dListRg, dIndex, dSortSet, dSortSc, dEnum, dZip, dIsi, dIsi2, isaT, φI, φB, φC, φNeg, add_i, add_l, add_t, mul_i, mul_l, φIx, sl_l, sl_t, eq_i, eq_s, eq_l, eq_t, eq_b, eq_n, φIsN, isN_n, isN_b, isN_i, isN_s, isN_l, isN_t, φLen, φList, φTuple, φAbs, φInt, φMax, φIsB, its_l, its_t, rd_sh, rd_nw, rd_br, rp_sh, rp_nw, rp_br, rp_bx, rp_raw, rp_sr, rr_sh, rr_nw, rr_br, ra_sh, ra_br, ra_bx, ra_raw, va_sh, va_nt, va_nf, va_raw, hb_n, hb_sh, hb_bx, hb_raw, hb_br, sh_n, sh_c, tr_n, tr_b, tr_i, tr_l, tr_t, ty_n, ty_b, ty_i, ty_s, ty_l, ty_t, if_ff, if_tt, Env.set, List.getElem?_cons_succ, List.getElem?_cons_zero, List.set_cons_succ, List.set_cons_zero, List.reverse_cons, List.reverse_nil, List.nil_append, List.cons_append, Option.bind_some, ite_true, ite_false]
  refine c_check h1 h3 ?_
  refine sq_ ?_
  try dsimp only [dVar_, gv_sh, gv_ow, gv_bx, gv_raw, gv_st, dC, dRaw, dOp, dUn, dTest, dTruth, dAnd, dOr, dNot, dYes, dIf, dAndV, dOrV, dNotV, dNotT, dChain, dNil, dCons, dTup, dLst, dats, dCB, dNoP, dPart, dSl, dNext, dBreak, dCont, dNever, dDrop, dRet, dRetN, dIfS, dSetG, dPar, dPar3, dAppend, dAppPop, dSetIx, dExt, dAug, dSet0, dSAdd, dSNotIn, dIter_, gi_l, gi_t, gi_b, dRng1, dRng2, dName, dGNil, dGCons, dGTup, dAsg, dFor, dWhile, dCall, dCallR, dArgs_, ga_f, ga_t, argsOf, dLc, wipeE, dListRg, dIndex, dSortSet, dSortSc, dEnum, dZip, dIsi, dIsi2, isaT, φI, φB, φC, φNeg, add_i, add_l, add_t, mul_i, mul_l, φIx, sl_l, sl_t, eq_i, eq_s, eq_l, eq_t, eq_b, eq_n, φIsN, isN_n, isN_b, isN_i, isN_s, isN_l, isN_t, φLen, φList, φTuple, φAbs, φInt, φMax, φIsB, its_l, its_t, rd_sh, rd_nw, rd_br, rp_sh, rp_nw, rp_br, rp_bx, rp_raw, rp_sr, rr_sh, rr_nw, rr_br, ra_sh, ra_br, ra_bx, ra_raw, va_sh, va_nt, va_nf, va_raw, hb_n, hb_sh, hb_bx, hb_raw, hb_br, sh_n, sh_c, tr_n, tr_b, tr_i, tr_l, tr_t, ty_n, ty_b, ty_i, ty_s, ty_l, ty_t, if_ff, if_tt, Env.set, List.getElem?_cons_succ, List.getElem?_cons_zero, List.set_cons_succ, List.set_cons_zero, List.reverse_cons, List.reverse_nil, List.nil_append, List.cons_append, Option.bind_some, ite_true, ite_false]
  refine c_route h1 h2 h3 ?_
  refine sq_ ?_
  try dsimp only [dVar_, gv_sh, gv_ow, gv_bx, gv_raw, gv_st, dC, dRaw, dOp, dUn, dTest, dTruth, dAnd, dOr, dNot, dYes, dIf, dAndV, dOrV, dNotV, dNotT, dChain, dNil, dCons, dTup, dLst, dats, dCB, dNoP, dPart, dSl, dNext, dBreak, dCont, dNever, dDrop, dRet, dRetN, dIfS, dSetG, dPar, dPar3, dAppend, dAppPop, dSetIx, dExt, dAug, dSet0, dSAdd, dSNotIn, dIter_, gi_l, gi_t, gi_b, dRng1, dRng2, dName, dGNil, dGCons, dGTup, dAsg, dFor, dWhile, dCall, dCallR, dArgs_, ga_f, ga_t, argsOf, dLc, wipeE, dListRg, dIndex, dSortSet, dSortSc, dEnum, dZip, dIsi, dIsi2, isaT, φI, φB, φC, φNeg, add_i, add_l, add_t, mul_i, mul_l, φIx, sl_l, sl_t, eq_i, eq_s, eq_l, eq_t, eq_b, eq_n, φIsN, isN_n, isN_b, isN_i, isN_s, isN_l, isN_t, φLen, φList, φTuple, φAbs, φInt, φMax, φIsB, its_l, its_t, rd_sh, rd_nw, rd_br, rp_sh, rp_nw, rp_br, rp_bx, rp_raw, rp_sr, rr_sh, rr_nw, rr_br, ra_sh, ra_br, ra_bx, ra_raw, va_sh, va_nt, va_nf, va_raw, hb_n, hb_sh, hb_bx, hb_raw, hb_br, sh_n, sh_c, tr_n, tr_b, tr_i, tr_l, tr_t, ty_n, ty_b, ty_i, ty_s, ty_l, ty_t, if_ff, if_tt, Env.set, List.getElem?_cons_succ, List.getElem?_cons_zero, List.set_cons_succ, List.set_cons_zero, List.reverse_cons, List.reverse_nil, List.nil_append, List.cons_append, Option.bind_some, ite_true, ite_false]
  refine ⟨d, _, ns, p, rfl, h1, h2, h3, its_l _, ?_⟩
  try dsimp only [dVar_, gv_sh, gv_ow, gv_bx, gv_raw, gv_st, dC, dRaw, dOp, dUn, dTest, dTruth, dAnd, dOr, dNot, dYes, dIf, dAndV, dOrV, dNotV, dNotT, dChain, dNil, dCons, dTup, dLst, dats, dCB, dNoP, dPart, dSl, dNext, dBreak, dCont, dNever, dDrop, dRet, dRetN, dIfS, dSetG, dPar, dPar3, dAppend, dAppPop, dSetIx, dExt, dAug, dSet0, dSAdd, dSNotIn, dIter_, gi_l, gi_t, gi_b, dRng1, dRng2, dName, dGNil, dGCons, dGTup, dAsg, dFor, dWhile, dCall, dCallR, dArgs_, ga_f, ga_t, argsOf, dLc, wipeE, dListRg, dIndex, dSortSet, dSortSc, dEnum, dZip, dIsi, dIsi2, isaT, φI, φB, φC, φNeg, add_i, add_l, add_t, mul_i, mul_l, φIx, sl_l, sl_t, eq_i, eq_s, eq_l, eq_t, eq_b, eq_n, φIsN, isN_n, isN_b, isN_i, isN_s, isN_l, isN_t, φLen, φList, φTuple, φAbs, φInt, φMax, φIsB, its_l, its_t, rd_sh, rd_nw, rd_br, rp_sh, rp_nw, rp_br, rp_bx, rp_raw, rp_sr, rr_sh, rr_nw, rr_br, ra_sh, ra_br, ra_bx, ra_raw, va_sh, va_nt, va_nf, va_raw, hb_n, hb_sh, hb_bx, hb_raw, hb_br, sh_n, sh_c, tr_n, tr_b, tr_i, tr_l, tr_t, ty_n, ty_b, ty_i, ty_s, ty_l, ty_t, if_ff, if_tt, Env.set, List.getElem?_cons_succ, List.getElem?_cons_zero, List.set_cons_succ, List.set_cons_zero, List.reverse_cons, List.reverse_nil, List.nil_append, List.cons_append, Option.bind_some, ite_true, ite_false]
  rw [cutD_from _ _ (Int.natCast_nonneg _), Int.toNat_natCast, dI_drop]
  have hne : (routeF ns p).drop (heightF ns p) ≠ [] := fun e => by
    have := congrArg List.length e
    have h := begin_lt h2 h3
    rw [List.length_drop] at this
    rw [List.length_nil] at this
    omega
  have hl : ((routeF ns p).drop (heightF ns p)).length ≤ 1000 := by
    rw [List.length_drop]
    have := (route_len h2 h3).2
    have := h2.le
    omega
  refine φMin_dI (its_l _) hne fun m hm => ?_
  refine ⟨true, _, m, rfl, hm.1, by omega, ?_⟩
  try dsimp only [dVar_, gv_sh, gv_ow, gv_bx, gv_raw, gv_st, dC, dRaw, dOp, dUn, dTest, dTruth, dAnd, dOr, dNot, dYes, dIf, dAndV, dOrV, dNotV, dNotT, dChain, dNil, dCons, dTup, dLst, dats, dCB, dNoP, dPart, dSl, dNext, dBreak, dCont, dNever, dDrop, dRet, dRetN, dIfS, dSetG, dPar, dPar3, dAppend, dAppPop, dSetIx, dExt, dAug, dSet0, dSAdd, dSNotIn, dIter_, gi_l, gi_t, gi_b, dRng1, dRng2, dName, dGNil, dGCons, dGTup, dAsg, dFor, dWhile, dCall, dCallR, dArgs_, ga_f, ga_t, argsOf, dLc, wipeE, dListRg, dIndex, dSortSet, dSortSc, dEnum, dZip, dIsi, dIsi2, isaT, φI, φB, φC, φNeg, add_i, add_l, add_t, mul_i, mul_l, φIx, sl_l, sl_t, eq_i, eq_s, eq_l, eq_t, eq_b, eq_n, φIsN, isN_n, isN_b, isN_i, isN_s, isN_l, isN_t, φLen, φList, φTuple, φAbs, φInt, φMax, φIsB, its_l, its_t, rd_sh, rd_nw, rd_br, rp_sh, rp_nw, rp_br, rp_bx, rp_raw, rp_sr, rr_sh, rr_nw, rr_br, ra_sh, ra_br, ra_bx, ra_raw, va_sh, va_nt, va_nf, va_raw, hb_n, hb_sh, hb_bx, hb_raw, hb_br, sh_n, sh_c, tr_n, tr_b, tr_i, tr_l, tr_t, ty_n, ty_b, ty_i, ty_s, ty_l, ty_t, if_ff, if_tt, Env.set, List.getElem?_cons_succ, List.getElem?_cons_zero, List.set_cons_succ, List.set_cons_zero, List.reverse_cons, List.reverse_nil, List.nil_append, List.cons_append, Option.bind_some, ite_true, ite_false, rq]
  have em : m = minF ((routeF ns p).drop (heightF ns p)) := by
    have := minF_ok hne
    exact Int.le_antisymm (hm.2 _ this.1) (this.2 _ hm.1)
  rw [em]
  exact q
end Lp

namespace Lp
open PySem PySem.Spec PyProof.Rows L2
theorem rg0 (n : Nat) : rgD 0 n = (List.range n).map fun i : Nat => .int (i : Nat) := by
  unfold rgD
  exact List.map_congr_left fun i _ => by rw [Int.zero_add]
theorem per_nat {ns : List Int} {j : Nat} (h : j < ns.length) : Per ns (j : Int) := ⟨Int.natCast_nonneg _, by omega⟩
theorem c_ring {d : PyData} {ns : List Int} {p : Int} {c : Nat} {Q : R → Nat → Prop} (h1 : PyData.its d = some (dI ns)) (h2 : Stt ns) (hp : Per ns p) (q : Q (.sh (.tuple (dI (ringF ns p)))) c) : p_ring_of [.sh d, .sh (.int p)] c Q := ⟨d, ns, p, rfl, h1, h2, hp, q⟩
theorem ring_ne {ns : List Int} (h : Stt ns) {p : Int} (hp : Per ns p) : ringF ns p ≠ [] := by
  unfold ringF
  refine turnF_ne fun e => ?_
  have := congrArg List.length e
  have h := begin_lt h hp
  rw [List.length_drop, List.length_nil] at this
  unfold heightF at h
  omega
theorem Stt.rg {ns : List Int} (h : Stt ns) : -(2 ^ 62) ≤ (ns.length : Int) ∧ (ns.length : Int) < 2 ^ 62 := by have := h.le; omega
/-! ### rings -/
/-- rings: state, person -/
def b_rings : DTS := (dRet (dSortSc (dRng1 (dCons (dCB φLen (dCons (dVar 0) dNil)) dNil)) (dName 1) (dCall p_ring_of (dCons (dVar 0) (dCons (dVar 1) dNil))) [1]))
abbrev k_rings : Nat := 1
def p_rings : DSp := fun args c Q => ∃ (d : PyData) (ns : List Int), args = [.sh d] ∧ PyData.its d = some (dI ns) ∧ Stt ns ∧ ns.length < 64 ∧ ∀ RS, RingsOf ns RS → Q (.nw (dT RS)) c
theorem mon_rings : MonF p_rings := fun args c A B h ⟨d, ns, ea, h1, h2, h3, q⟩ => ⟨d, ns, ea, h1, h2, h3, fun RS hR => h _ _ (q RS hR)⟩
theorem asc_rings {ns : List Int} {RS : List (List Int)} (h : Asc ((List.range ns.length).map fun i : Nat => ringF ns (i : Int)) RS) : RingsOf ns RS := by
  refine ⟨h.1, h.2.1, fun k => (h.2.2 k).trans ?_⟩
  rw [List.mem_map]
  constructor
  · rintro ⟨j, hj, e⟩; exact ⟨j, List.mem_range.mp hj, e⟩
  · rintro ⟨j, hj, e⟩; exact ⟨j, List.mem_range.mpr hj, e⟩
theorem m_rings : ∀ args c Q, p_rings args c Q → defF k_rings b_rings args c Q := by
  rintro _ c Q ⟨d, ns, rfl, h1, h2, h3, q⟩
  show b_rings _ ⟨[.sh d, .un], c⟩
  unfold b_rings
  try dsimp only [dVar_, gv_sh, gv_ow, gv_bx, gv_raw, gv_st, dC, dRaw, dOp, dUn, dTest, dTruth, dAnd, dOr, dNot, dYes, dIf, dAndV, dOrV, dNotV, dNotT, dChain, dNil, dCons, dTup, dLst, dats, dCB, dNoP, dPart, dSl, dNext, dBreak, dCont, dNever, dDrop, dRet, dRetN, dIfS, dSetG, dPar, dPar3, dAppend, dAppPop, dSetIx, dExt, dAug, dSet0, dSAdd, dSNotIn, dIter_, gi_l, gi_t, gi_b, dRng1, dRng2, dName, dGNil, dGCons, dGTup, dAsg, dFor, dWhile, dCall, dCallR, dArgs_, ga_f, ga_t, argsOf, dLc, wipeE, dListRg, dIndex, dSortSet, dSortSc, dEnum, dZip, dIsi, dIsi2, isaT, φI, φB, φC, φNeg, add_i, add_l, add_t, mul_i, mul_l, φIx, sl_l, sl_t, eq_i, eq_s, eq_l, eq_t, eq_b, eq_n, φIsN, isN_n, isN_b, isN_i, isN_s, isN_l, isN_t, φLen, φList, φTuple, φAbs, φInt, φMax, φIsB, its_l, its_t, rd_sh, rd_nw, rd_br, rp_sh, rp_nw, rp_br, rp_bx, rp_raw, rp_sr, rr_sh, rr_nw, rr_br, ra_sh, ra_br, ra_bx, ra_raw, va_sh, va_nt, va_nf, va_raw, hb_n, hb_sh, hb_bx, hb_raw, hb_br, sh_n, sh_c, tr_n, tr_b, tr_i, tr_l, tr_t, ty_n, ty_b, ty_i, ty_s, ty_l, ty_t, if_ff, if_tt, Env.set, List.getElem?_cons_succ, List.getElem?_cons_zero, List.set_cons_succ, List.set_cons_zero, List.reverse_cons, List.reverse_nil, List.nil_append, List.cons_append, Option.bind_some, ite_true, ite_false]
  rw [h1]
  dsimp only
  rw [dI_len]
  refine ⟨h2.rg, ?_⟩
  rw [Int.toNat_natCast, rg0]
  refine sc_all _ (fun i : Nat => ringF ns (i : Int)) (List.range ns.length) [] (fun i hi => ?_) (by rw [List.length_range]; exact Nat.lt_of_le_of_lt (Nat.le_of_eq (Nat.zero_add _)) h3) fun RS hR => ?_
  · have hp := per_nat (List.mem_range.mp hi)
    refine ⟨ring_ne h2 hp, fun K hK => ?_⟩
    try dsimp only [dVar_, gv_sh, gv_ow, gv_bx, gv_raw, gv_st, dC, dRaw, dOp, dUn, dTest, dTruth, dAnd, dOr, dNot, dYes, dIf, dAndV, dOrV, dNotV, dNotT, dChain, dNil, dCons, dTup, dLst, dats, dCB, dNoP, dPart, dSl, dNext, dBreak, dCont, dNever, dDrop, dRet, dRetN, dIfS, dSetG, dPar, dPar3, dAppend, dAppPop, dSetIx, dExt, dAug, dSet0, dSAdd, dSNotIn, dIter_, gi_l, gi_t, gi_b, dRng1, dRng2, dName, dGNil, dGCons, dGTup, dAsg, dFor, dWhile, dCall, dCallR, dArgs_, ga_f, ga_t, argsOf, dLc, wipeE, dListRg, dIndex, dSortSet, dSortSc, dEnum, dZip, dIsi, dIsi2, isaT, φI, φB, φC, φNeg, add_i, add_l, add_t, mul_i, mul_l, φIx, sl_l, sl_t, eq_i, eq_s, eq_l, eq_t, eq_b, eq_n, φIsN, isN_n, isN_b, isN_i, isN_s, isN_l, isN_t, φLen, φList, φTuple, φAbs, φInt, φMax, φIsB, its_l, its_t, rd_sh, rd_nw, rd_br, rp_sh, rp_nw, rp_br, rp_bx, rp_raw, rp_sr, rr_sh, rr_nw, rr_br, ra_sh, ra_br, ra_bx, ra_raw, va_sh, va_nt, va_nf, va_raw, hb_n, hb_sh, hb_bx, hb_raw, hb_br, sh_n, sh_c, tr_n, tr_b, tr_i, tr_l, tr_t, ty_n, ty_b, ty_i, ty_s, ty_l, ty_t, if_ff, if_tt, Env.set, List.getElem?_cons_succ, List.getElem?_cons_zero, List.set_cons_succ, List.set_cons_zero, List.reverse_cons, List.reverse_nil, List.nil_append, List.cons_append, Option.bind_some, ite_true, ite_false]
    exact c_ring h1 h2 hp (hK _ rfl)
  · try dsimp only [dVar_, gv_sh, gv_ow, gv_bx, gv_raw, gv_st, dC, dRaw, dOp, dUn, dTest, dTruth, dAnd, dOr, dNot, dYes, dIf, dAndV, dOrV, dNotV, dNotT, dChain, dNil, dCons, dTup, dLst, dats, dCB, dNoP, dPart, dSl, dNext, dBreak, dCont, dNever, dDrop, dRet, dRetN, dIfS, dSetG, dPar, dPar3, dAppend, dAppPop, dSetIx, dExt, dAug, dSet0, dSAdd, dSNotIn, dIter_, gi_l, gi_t, gi_b, dRng1, dRng2, dName, dGNil, dGCons, dGTup, dAsg, dFor, dWhile, dCall, dCallR, dArgs_, ga_f, ga_t, argsOf, dLc, wipeE, dListRg, dIndex, dSortSet, dSortSc, dEnum, dZip, dIsi, dIsi2, isaT, φI, φB, φC, φNeg, add_i, add_l, add_t, mul_i, mul_l, φIx, sl_l, sl_t, eq_i, eq_s, eq_l, eq_t, eq_b, eq_n, φIsN, isN_n, isN_b, isN_i, isN_s, isN_l, isN_t, φLen, φList, φTuple, φAbs, φInt, φMax, φIsB, its_l, its_t, rd_sh, rd_nw, rd_br, rp_sh, rp_nw, rp_br, rp_bx, rp_raw, rp_sr, rr_sh, rr_nw, rr_br, ra_sh, ra_br, ra_bx, ra_raw, va_sh, va_nt, va_nf, va_raw, hb_n, hb_sh, hb_bx, hb_raw, hb_br, sh_n, sh_c, tr_n, tr_b, tr_i, tr_l, tr_t, ty_n, ty_b, ty_i, ty_s, ty_l, ty_t, if_ff, if_tt, Env.set, List.getElem?_cons_succ, List.getElem?_cons_zero, List.set_cons_succ, List.set_cons_zero, List.reverse_cons, List.reverse_nil, List.nil_append, List.cons_append, Option.bind_some, ite_true, ite_false]
    exact q RS (asc_rings hR)
theorem c_rings {d : PyData} {ns : List Int} {c : Nat} {Q : R → Nat → Prop} (h1 : PyData.its d = some (dI ns)) (h2 : Stt ns) (h3 : ns.length < 64) (q : ∀ RS, RingsOf ns RS → Q (.nw (dT RS)) c) : p_rings [.sh d] c Q := ⟨d, ns, rfl, h1, h2, h3, q⟩
/-! ### product -/
def prodL (fs : List Int) : Int := fs.foldl (· * ·) 1
/-- product: factors, result, factor -/
def b_product : DTS := (dSeq (dSetG false 1 (dC (.int 1)))
  (dSeq (dFor (dIter (dVar 0)) (dName 2) (dAug (φC CMulW fun i j => i * j) 1 (dVar 2)))
  (dRet (dVar 1))))
abbrev k_product : Nat := 2
def p_product : DSp := fun args c Q => ∃ (d : PyData) (fs : List Int) (b : Nat), args = [.sh d] ∧ PyData.its d = some (dI fs) ∧ (∀ f ∈ fs, 0 ≤ f ∧ f < 2 ^ b) ∧ b * fs.length + b < 1000000 ∧ Q (.sh (.int (prodL fs))) c
theorem mon_product : MonF p_product := fun args c A B h ⟨d, ns, b, ea, h1, h2, h3, q⟩ => ⟨d, ns, b, ea, h1, h2, h3, h _ _ q⟩
theorem prod_le (b : Nat) : ∀ (fs : List Int) (a : Int) (k : Nat), (∀ f ∈ fs, 0 ≤ f ∧ f < 2 ^ b) → 0 ≤ a → a ≤ 2 ^ k → 0 ≤ fs.foldl (· * ·) a ∧ fs.foldl (· * ·) a ≤ 2 ^ (k + b * fs.length)
  | [], a, k, _, h0, h1 => ⟨h0, by simpa using h1⟩
  | f :: r, a, k, h, h0, h1 => by
    obtain ⟨f0, f1⟩ := h f List.mem_cons_self
    have h2 : a * f ≤ 2 ^ (k + b) := by
      rw [Int.pow_add]
      exact Int.mul_le_mul h1 (Int.le_of_lt f1) f0 (Int.le_of_lt (Int.pow_pos (by decide)))
    have := prod_le b r (a * f) (k + b) (fun g hg => h g (List.mem_cons_of_mem _ hg)) (Int.mul_nonneg h0 f0) h2
    refine ⟨this.1, ?_⟩
    rw [List.length_cons, show k + b * (r.length + 1) = k + b + b * r.length by rw [Nat.mul_add, Nat.mul_one]; omega]
    exact this.2
theorem log_le {a : Int} {k : Nat} (h0 : 0 ≤ a) (h1 : a ≤ 2 ^ k) : a.natAbs.log2 ≤ k := by
  have : a.natAbs ≤ 2 ^ k := by
    have : ((a.natAbs : Nat) : Int) ≤ ((2 ^ k : Nat) : Int) := by
      rw [Int.natAbs_of_nonneg h0]; push_cast; exact h1
    exact Int.ofNat_le.mp this
  by_cases hz : a.natAbs = 0
  · rw [hz]; simp
  · have h3 : ¬ k + 1 ≤ a.natAbs.log2 := fun h => by
      have := (Nat.le_log2 hz).mp h
      have : 2 ^ (k + 1) = 2 ^ k * 2 := Nat.pow_succ ..
      have : 0 < 2 ^ k := Nat.pow_pos (by decide)
      omega
    omega
theorem product_loop {d : PyData} {b : Nat} {c : Nat} {Δ : DEnds} {p : DTS} (hp : p = dAug (φC CMulW fun i j => i * j) 1 (dVar 2)) : ∀ (fs : List Int) (a : Int) (k : Nat) (y : SV), (∀ f ∈ fs, 0 ≤ f ∧ f < 2 ^ b) → 0 ≤ a → a ≤ 2 ^ k → k + b * fs.length + b < 1000000 →
    (∀ y, Δ.nx ⟨[.sh d, .sh (.int (fs.foldl (· * ·) a)), y], c⟩) → forD (dName 2) p Δ (dI fs) ⟨[.sh d, .sh (.int a), y], c⟩
  | [], a, k, y, _, _, _, _, q => q y
  | f :: r, a, k, y, h, h0, h1, h2, q => by
    obtain ⟨f0, f1⟩ := h f List.mem_cons_self
    rw [List.length_cons, Nat.mul_add, Nat.mul_one] at h2
    refine for_cons ?_
    subst hp
    try dsimp only [dVar_, gv_sh, gv_ow, gv_bx, gv_raw, gv_st, dC, dRaw, dOp, dUn, dTest, dTruth, dAnd, dOr, dNot, dYes, dIf, dAndV, dOrV, dNotV, dNotT, dChain, dNil, dCons, dTup, dLst, dats, dCB, dNoP, dPart, dSl, dNext, dBreak, dCont, dNever, dDrop, dRet, dRetN, dIfS, dSetG, dPar, dPar3, dAppend, dAppPop, dSetIx, dExt, dAug, dSet0, dSAdd, dSNotIn, dIter_, gi_l, gi_t, gi_b, dRng1, dRng2, dName, dGNil, dGCons, dGTup, dAsg, dFor, dWhile, dCall, dCallR, dArgs_, ga_f, ga_t, argsOf, dLc, wipeE, dListRg, dIndex, dSortSet, dSortSc, dEnum, dZip, dIsi, dIsi2, isaT, φI, φB, φC, φNeg, add_i, add_l, add_t, mul_i, mul_l, φIx, sl_l, sl_t, eq_i, eq_s, eq_l, eq_t, eq_b, eq_n, φIsN, isN_n, isN_b, isN_i, isN_s, isN_l, isN_t, φLen, φList, φTuple, φAbs, φInt, φMax, φIsB, its_l, its_t, rd_sh, rd_nw, rd_br, rp_sh, rp_nw, rp_br, rp_bx, rp_raw, rp_sr, rr_sh, rr_nw, rr_br, ra_sh, ra_br, ra_bx, ra_raw, va_sh, va_nt, va_nf, va_raw, hb_n, hb_sh, hb_bx, hb_raw, hb_br, sh_n, sh_c, tr_n, tr_b, tr_i, tr_l, tr_t, ty_n, ty_b, ty_i, ty_s, ty_l, ty_t, if_ff, if_tt, Env.set, List.getElem?_cons_succ, List.getElem?_cons_zero, List.set_cons_succ, List.set_cons_zero, List.reverse_cons, List.reverse_nil, List.nil_append, List.cons_append, Option.bind_some, ite_true, ite_false]
    refine ⟨?_, ?_⟩
    · have := log_le h0 h1
      have := log_le f0 (Int.le_of_lt f1)
      show _ + _ < _
      omega
    · have h3 : a * f ≤ 2 ^ (k + b) := by
        rw [Int.pow_add]
        exact Int.mul_le_mul h1 (Int.le_of_lt f1) f0 (Int.le_of_lt (Int.pow_pos (by decide)))
      exact product_loop rfl r (a * f) (k + b) _ (fun g hg => h g (List.mem_cons_of_mem _ hg)) (Int.mul_nonneg h0 f0) h3 (by omega) q
theorem m_product : ∀ args c Q, p_product args c Q → defF k_product b_product args c Q := by
  rintro _ c Q ⟨d, fs, b, rfl, h1, h2, h3, q⟩
  show b_product _ ⟨[.sh d, .un, .un], c⟩
  unfold b_product
  refine sq_ ?_
  try dsimp only [dVar_, gv_sh, gv_ow, gv_bx, gv_raw, gv_st, dC, dRaw, dOp, dUn, dTest, dTruth, dAnd, dOr, dNot, dYes, dIf, dAndV, dOrV, dNotV, dNotT, dChain, dNil, dCons, dTup, dLst, dats, dCB, dNoP, dPart, dSl, dNext, dBreak, dCont, dNever, dDrop, dRet, dRetN, dIfS, dSetG, dPar, dPar3, dAppend, dAppPop, dSetIx, dExt, dAug, dSet0, dSAdd, dSNotIn, dIter_, gi_l, gi_t, gi_b, dRng1, dRng2, dName, dGNil, dGCons, dGTup, dAsg, dFor, dWhile, dCall, dCallR, dArgs_, ga_f, ga_t, argsOf, dLc, wipeE, dListRg, dIndex, dSortSet, dSortSc, dEnum, dZip, dIsi, dIsi2, isaT, φI, φB, φC, φNeg, add_i, add_l, add_t, mul_i, mul_l, φIx, sl_l, sl_t, eq_i, eq_s, eq_l, eq_t, eq_b, eq_n, φIsN, isN_n, isN_b, isN_i, isN_s, isN_l, isN_t, φLen, φList, φTuple, φAbs, φInt, φMax, φIsB, its_l, its_t, rd_sh, rd_nw, rd_br, rp_sh, rp_nw, rp_br, rp_bx, rp_raw, rp_sr, rr_sh, rr_nw, rr_br, ra_sh, ra_br, ra_bx, ra_raw, va_sh, va_nt, va_nf, va_raw, hb_n, hb_sh, hb_bx, hb_raw, hb_br, sh_n, sh_c, tr_n, tr_b, tr_i, tr_l, tr_t, ty_n, ty_b, ty_i, ty_s, ty_l, ty_t, if_ff, if_tt, Env.set, List.getElem?_cons_succ, List.getElem?_cons_zero, List.set_cons_succ, List.set_cons_zero, List.reverse_cons, List.reverse_nil, List.nil_append, List.cons_append, Option.bind_some, ite_true, ite_false]
  refine sq_ ?_
  rcases its_cases h1 with rfl | rfl
  · try dsimp only [dVar_, gv_sh, gv_ow, gv_bx, gv_raw, gv_st, dC, dRaw, dOp, dUn, dTest, dTruth, dAnd, dOr, dNot, dYes, dIf, dAndV, dOrV, dNotV, dNotT, dChain, dNil, dCons, dTup, dLst, dats, dCB, dNoP, dPart, dSl, dNext, dBreak, dCont, dNever, dDrop, dRet, dRetN, dIfS, dSetG, dPar, dPar3, dAppend, dAppPop, dSetIx, dExt, dAug, dSet0, dSAdd, dSNotIn, dIter_, gi_l, gi_t, gi_b, dRng1, dRng2, dName, dGNil, dGCons, dGTup, dAsg, dFor, dWhile, dCall, dCallR, dArgs_, ga_f, ga_t, argsOf, dLc, wipeE, dListRg, dIndex, dSortSet, dSortSc, dEnum, dZip, dIsi, dIsi2, isaT, φI, φB, φC, φNeg, add_i, add_l, add_t, mul_i, mul_l, φIx, sl_l, sl_t, eq_i, eq_s, eq_l, eq_t, eq_b, eq_n, φIsN, isN_n, isN_b, isN_i, isN_s, isN_l, isN_t, φLen, φList, φTuple, φAbs, φInt, φMax, φIsB, its_l, its_t, rd_sh, rd_nw, rd_br, rp_sh, rp_nw, rp_br, rp_bx, rp_raw, rp_sr, rr_sh, rr_nw, rr_br, ra_sh, ra_br, ra_bx, ra_raw, va_sh, va_nt, va_nf, va_raw, hb_n, hb_sh, hb_bx, hb_raw, hb_br, sh_n, sh_c, tr_n, tr_b, tr_i, tr_l, tr_t, ty_n, ty_b, ty_i, ty_s, ty_l, ty_t, if_ff, if_tt, Env.set, List.getElem?_cons_succ, List.getElem?_cons_zero, List.set_cons_succ, List.set_cons_zero, List.reverse_cons, List.reverse_nil, List.nil_append, List.cons_append, Option.bind_some, ite_true, ite_false]
    refine ⟨rfl, product_loop rfl fs 1 0 _ h2 (by decide) (by decide) (by omega) fun y => ?_⟩
    try dsimp only [dVar_, gv_sh, gv_ow, gv_bx, gv_raw, gv_st, dC, dRaw, dOp, dUn, dTest, dTruth, dAnd, dOr, dNot, dYes, dIf, dAndV, dOrV, dNotV, dNotT, dChain, dNil, dCons, dTup, dLst, dats, dCB, dNoP, dPart, dSl, dNext, dBreak, dCont, dNever, dDrop, dRet, dRetN, dIfS, dSetG, dPar, dPar3, dAppend, dAppPop, dSetIx, dExt, dAug, dSet0, dSAdd, dSNotIn, dIter_, gi_l, gi_t, gi_b, dRng1, dRng2, dName, dGNil, dGCons, dGTup, dAsg, dFor, dWhile, dCall, dCallR, dArgs_, ga_f, ga_t, argsOf, dLc, wipeE, dListRg, dIndex, dSortSet, dSortSc, dEnum, dZip, dIsi, dIsi2, isaT, φI, φB, φC, φNeg, add_i, add_l, add_t, mul_i, mul_l, φIx, sl_l, sl_t, eq_i, eq_s, eq_l, eq_t, eq_b, eq_n, φIsN, isN_n, isN_b, isN_i, isN_s, isN_l, isN_t, φLen, φList, φTuple, φAbs, φInt, φMax, φIsB, its_l, its_t, rd_sh, rd_nw, rd_br, rp_sh, rp_nw, rp_br, rp_bx, rp_raw, rp_sr, rr_sh, rr_nw, rr_br, ra_sh, ra_br, ra_bx, ra_raw, va_sh, va_nt, va_nf, va_raw, hb_n, hb_sh, hb_bx, hb_raw, hb_br, sh_n, sh_c, tr_n, tr_b, tr_i, tr_l, tr_t, ty_n, ty_b, ty_i, ty_s, ty_l, ty_t, if_ff, if_tt, Env.set, List.getElem?_cons_succ, List.getElem?_cons_zero, List.set_cons_succ, List.set_cons_zero, List.reverse_cons, List.reverse_nil, List.nil_append, List.cons_append, Option.bind_some, ite_true, ite_false]
    exact q
  · try dsimp only [dVar_, gv_sh, gv_ow, gv_bx, gv_raw, gv_st, dC, dRaw, dOp, dUn, dTest, dTruth, dAnd, dOr, dNot, dYes, dIf, dAndV, dOrV, dNotV, dNotT, dChain, dNil, dCons, dTup, dLst, dats, dCB, dNoP, dPart, dSl, dNext, dBreak, dCont, dNever, dDrop, dRet, dRetN, dIfS, dSetG, dPar, dPar3, dAppend, dAppPop, dSetIx, dExt, dAug, dSet0, dSAdd, dSNotIn, dIter_, gi_l, gi_t, gi_b, dRng1, dRng2, dName, dGNil, dGCons, dGTup, dAsg, dFor, dWhile, dCall, dCallR, dArgs_, ga_f, ga_t, argsOf, dLc, wipeE, dListRg, dIndex, dSortSet, dSortSc, dEnum, dZip, dIsi, dIsi2, isaT, φI, φB, φC, φNeg, add_i, add_l, add_t, mul_i, mul_l, φIx, sl_l, sl_t, eq_i, eq_s, eq_l, eq_t, eq_b, eq_n, φIsN, isN_n, isN_b, isN_i, isN_s, isN_l, isN_t, φLen, φList, φTuple, φAbs, φInt, φMax, φIsB, its_l, its_t, rd_sh, rd_nw, rd_br, rp_sh, rp_nw, rp_br, rp_bx, rp_raw, rp_sr, rr_sh, rr_nw, rr_br, ra_sh, ra_br, ra_bx, ra_raw, va_sh, va_nt, va_nf, va_raw, hb_n, hb_sh, hb_bx, hb_raw, hb_br, sh_n, sh_c, tr_n, tr_b, tr_i, tr_l, tr_t, ty_n, ty_b, ty_i, ty_s, ty_l, ty_t, if_ff, if_tt, Env.set, List.getElem?_cons_succ, List.getElem?_cons_zero, List.set_cons_succ, List.set_cons_zero, List.reverse_cons, List.reverse_nil, List.nil_append, List.cons_append, Option.bind_some, ite_true, ite_false]
    refine ⟨rfl, product_loop rfl fs 1 0 _ h2 (by decide) (by decide) (by omega) fun y => ?_⟩
    try dsimp only [dVar_, gv_sh, gv_ow, gv_bx, gv_raw, gv_st, dC, dRaw, dOp, dUn, dTest, dTruth, dAnd, dOr, dNot, dYes, dIf, dAndV, dOrV, dNotV, dNotT, dChain, dNil, dCons, dTup, dLst, dats, dCB, dNoP, dPart, dSl, dNext, dBreak, dCont, dNever, dDrop, dRet, dRetN, dIfS, dSetG, dPar, dPar3, dAppend, dAppPop, dSetIx, dExt, dAug, dSet0, dSAdd, dSNotIn, dIter_, gi_l, gi_t, gi_b, dRng1, dRng2, dName, dGNil, dGCons, dGTup, dAsg, dFor, dWhile, dCall, dCallR, dArgs_, ga_f, ga_t, argsOf, dLc, wipeE, dListRg, dIndex, dSortSet, dSortSc, dEnum, dZip, dIsi, dIsi2, isaT, φI, φB, φC, φNeg, add_i, add_l, add_t, mul_i, mul_l, φIx, sl_l, sl_t, eq_i, eq_s, eq_l, eq_t, eq_b, eq_n, φIsN, isN_n, isN_b, isN_i, isN_s, isN_l, isN_t, φLen, φList, φTuple, φAbs, φInt, φMax, φIsB, its_l, its_t, rd_sh, rd_nw, rd_br, rp_sh, rp_nw, rp_br, rp_bx, rp_raw, rp_sr, rr_sh, rr_nw, rr_br, ra_sh, ra_br, ra_bx, ra_raw, va_sh, va_nt, va_nf, va_raw, hb_n, hb_sh, hb_bx, hb_raw, hb_br, sh_n, sh_c, tr_n, tr_b, tr_i, tr_l, tr_t, ty_n, ty_b, ty_i, ty_s, ty_l, ty_t, if_ff, if_tt, Env.set, List.getElem?_cons_succ, List.getElem?_cons_zero, List.set_cons_succ, List.set_cons_zero, List.reverse_cons, List.reverse_nil, List.nil_append, List.cons_append, Option.bind_some, ite_true, ite_false]
    exact q
/-! ### is_at_rest, rests_many -/
def restB (ns : List Int) : Bool := ns.all fun t => decide (gt ns t = t)
/-- is_at_rest: state, target -/
def b_is_at_rest : DTS := (dRet (dCB (φAll false) (dCons (dLc (dIter (dVar 0)) (dName 1) dYes (dOp (φEq false) (dOp φIx (dVar 0) (dVar 1)) (dVar 1)) [1]) dNil)))
abbrev k_is_at_rest : Nat := 1
def p_is_at_rest : DSp := fun args c Q => ∃ (d : PyData) (ns : List Int), args = [.sh d] ∧ PyData.its d = some (dI ns) ∧ Stt ns ∧ Q (.sh (.bool (restB ns))) c
theorem mon_is_at_rest : MonF p_is_at_rest := fun args c A B h ⟨d, ns, ea, h1, h2, q⟩ => ⟨d, ns, ea, h1, h2, h _ _ q⟩
theorem φAll_dB {any : Bool} {bs : List Bool} {Q : R → Prop} (q : Q (.sh (.bool (if any then bs.any id else bs.all id)))) : φAll any [.list (dB bs)] Q := by
  unfold φAll
  dsimp only
  rw [boolsD_dB]
  exact q
theorem dB_map {α : Type} (xs : List α) (f : α → Bool) : (xs.map fun x => PyData.bool (f x)) = dB (xs.map f) := by
  show _ = (xs.map f).map _
  rw [List.map_map]; rfl
theorem m_is_at_rest : ∀ args c Q, p_is_at_rest args c Q → defF k_is_at_rest b_is_at_rest args c Q := by
  rintro _ c Q ⟨d, ns, rfl, h1, h2, q⟩
  have st : ∀ x ∈ ns, ∀ K : R → Env → Prop, (∀ r ε, r.pub = .sh (.bool (decide (gt ns x = x))) → ε.c = c → K r ε) → dName 1 (.int x) ⟨wipeE ⟨[.sh d, .un], c⟩ [1], c⟩ fun ε1 => dOp (φEq false) (dOp φIx (dVar 0) (dVar 1)) (dVar 1) ε1 K := by
    intro x hx K hK
    try dsimp only [dVar_, gv_sh, gv_ow, gv_bx, gv_raw, gv_st, dC, dRaw, dOp, dUn, dTest, dTruth, dAnd, dOr, dNot, dYes, dIf, dAndV, dOrV, dNotV, dNotT, dChain, dNil, dCons, dTup, dLst, dats, dCB, dNoP, dPart, dSl, dNext, dBreak, dCont, dNever, dDrop, dRet, dRetN, dIfS, dSetG, dPar, dPar3, dAppend, dAppPop, dSetIx, dExt, dAug, dSet0, dSAdd, dSNotIn, dIter_, gi_l, gi_t, gi_b, dRng1, dRng2, dName, dGNil, dGCons, dGTup, dAsg, dFor, dWhile, dCall, dCallR, dArgs_, ga_f, ga_t, argsOf, dLc, wipeE, dListRg, dIndex, dSortSet, dSortSc, dEnum, dZip, dIsi, dIsi2, isaT, φI, φB, φC, φNeg, add_i, add_l, add_t, mul_i, mul_l, φIx, sl_l, sl_t, eq_i, eq_s, eq_l, eq_t, eq_b, eq_n, φIsN, isN_n, isN_b, isN_i, isN_s, isN_l, isN_t, φLen, φList, φTuple, φAbs, φInt, φMax, φIsB, its_l, its_t, rd_sh, rd_nw, rd_br, rp_sh, rp_nw, rp_br, rp_bx, rp_raw, rp_sr, rr_sh, rr_nw, rr_br, ra_sh, ra_br, ra_bx, ra_raw, va_sh, va_nt, va_nf, va_raw, hb_n, hb_sh, hb_bx, hb_raw, hb_br, sh_n, sh_c, tr_n, tr_b, tr_i, tr_l, tr_t, ty_n, ty_b, ty_i, ty_s, ty_l, ty_t, if_ff, if_tt, Env.set, List.getElem?_cons_succ, List.getElem?_cons_zero, List.set_cons_succ, List.set_cons_zero, List.reverse_cons, List.reverse_nil, List.nil_append, List.cons_append, Option.bind_some, ite_true, ite_false]
    rw [h1]
    refine ⟨_, atI_dI (h2.lo x hx).1 (h2.lo x hx).2, ?_⟩
    exact hK _ _ rfl rfl
  have hl : ([] : List PyData).length + ns.length ≤ 16777216 := by have := h2.le; show 0 + _ ≤ _; omega
  show b_is_at_rest _ ⟨[.sh d, .un], c⟩
  unfold b_is_at_rest
  rcases its_cases h1 with rfl | rfl
  · try dsimp only [dVar_, gv_sh, gv_ow, gv_bx, gv_raw, gv_st, dC, dRaw, dOp, dUn, dTest, dTruth, dAnd, dOr, dNot, dYes, dIf, dAndV, dOrV, dNotV, dNotT, dChain, dNil, dCons, dTup, dLst, dats, dCB, dNoP, dPart, dSl, dNext, dBreak, dCont, dNever, dDrop, dRet, dRetN, dIfS, dSetG, dPar, dPar3, dAppend, dAppPop, dSetIx, dExt, dAug, dSet0, dSAdd, dSNotIn, dIter_, gi_l, gi_t, gi_b, dRng1, dRng2, dName, dGNil, dGCons, dGTup, dAsg, dFor, dWhile, dCall, dCallR, dArgs_, ga_f, ga_t, argsOf, dLc, wipeE, dListRg, dIndex, dSortSet, dSortSc, dEnum, dZip, dIsi, dIsi2, isaT, φI, φB, φC, φNeg, add_i, add_l, add_t, mul_i, mul_l, φIx, sl_l, sl_t, eq_i, eq_s, eq_l, eq_t, eq_b, eq_n, φIsN, isN_n, isN_b, isN_i, isN_s, isN_l, isN_t, φLen, φList, φTuple, φAbs, φInt, φMax, φIsB, its_l, its_t, rd_sh, rd_nw, rd_br, rp_sh, rp_nw, rp_br, rp_bx, rp_raw, rp_sr, rr_sh, rr_nw, rr_br, ra_sh, ra_br, ra_bx, ra_raw, va_sh, va_nt, va_nf, va_raw, hb_n, hb_sh, hb_bx, hb_raw, hb_br, sh_n, sh_c, tr_n, tr_b, tr_i, tr_l, tr_t, ty_n, ty_b, ty_i, ty_s, ty_l, ty_t, if_ff, if_tt, Env.set, List.getElem?_cons_succ, List.getElem?_cons_zero, List.set_cons_succ, List.set_cons_zero, List.reverse_cons, List.reverse_nil, List.nil_append, List.cons_append, Option.bind_some, ite_true, ite_false]
    refine lc_all PyData.int (fun t => .bool (decide (gt ns t = t))) ns [] st hl ?_
    try dsimp only [dVar_, gv_sh, gv_ow, gv_bx, gv_raw, gv_st, dC, dRaw, dOp, dUn, dTest, dTruth, dAnd, dOr, dNot, dYes, dIf, dAndV, dOrV, dNotV, dNotT, dChain, dNil, dCons, dTup, dLst, dats, dCB, dNoP, dPart, dSl, dNext, dBreak, dCont, dNever, dDrop, dRet, dRetN, dIfS, dSetG, dPar, dPar3, dAppend, dAppPop, dSetIx, dExt, dAug, dSet0, dSAdd, dSNotIn, dIter_, gi_l, gi_t, gi_b, dRng1, dRng2, dName, dGNil, dGCons, dGTup, dAsg, dFor, dWhile, dCall, dCallR, dArgs_, ga_f, ga_t, argsOf, dLc, wipeE, dListRg, dIndex, dSortSet, dSortSc, dEnum, dZip, dIsi, dIsi2, isaT, φI, φB, φC, φNeg, add_i, add_l, add_t, mul_i, mul_l, φIx, sl_l, sl_t, eq_i, eq_s, eq_l, eq_t, eq_b, eq_n, φIsN, isN_n, isN_b, isN_i, isN_s, isN_l, isN_t, φLen, φList, φTuple, φAbs, φInt, φMax, φIsB, its_l, its_t, rd_sh, rd_nw, rd_br, rp_sh, rp_nw, rp_br, rp_bx, rp_raw, rp_sr, rr_sh, rr_nw, rr_br, ra_sh, ra_br, ra_bx, ra_raw, va_sh, va_nt, va_nf, va_raw, hb_n, hb_sh, hb_bx, hb_raw, hb_br, sh_n, sh_c, tr_n, tr_b, tr_i, tr_l, tr_t, ty_n, ty_b, ty_i, ty_s, ty_l, ty_t, if_ff, if_tt, Env.set, List.getElem?_cons_succ, List.getElem?_cons_zero, List.set_cons_succ, List.set_cons_zero, List.reverse_cons, List.reverse_nil, List.nil_append, List.cons_append, Option.bind_some, ite_true, ite_false]
    rw [dB_map]
    refine φAll_dB ?_
    try dsimp only [dVar_, gv_sh, gv_ow, gv_bx, gv_raw, gv_st, dC, dRaw, dOp, dUn, dTest, dTruth, dAnd, dOr, dNot, dYes, dIf, dAndV, dOrV, dNotV, dNotT, dChain, dNil, dCons, dTup, dLst, dats, dCB, dNoP, dPart, dSl, dNext, dBreak, dCont, dNever, dDrop, dRet, dRetN, dIfS, dSetG, dPar, dPar3, dAppend, dAppPop, dSetIx, dExt, dAug, dSet0, dSAdd, dSNotIn, dIter_, gi_l, gi_t, gi_b, dRng1, dRng2, dName, dGNil, dGCons, dGTup, dAsg, dFor, dWhile, dCall, dCallR, dArgs_, ga_f, ga_t, argsOf, dLc, wipeE, dListRg, dIndex, dSortSet, dSortSc, dEnum, dZip, dIsi, dIsi2, isaT, φI, φB, φC, φNeg, add_i, add_l, add_t, mul_i, mul_l, φIx, sl_l, sl_t, eq_i, eq_s, eq_l, eq_t, eq_b, eq_n, φIsN, isN_n, isN_b, isN_i, isN_s, isN_l, isN_t, φLen, φList, φTuple, φAbs, φInt, φMax, φIsB, its_l, its_t, rd_sh, rd_nw, rd_br, rp_sh, rp_nw, rp_br, rp_bx, rp_raw, rp_sr, rr_sh, rr_nw, rr_br, ra_sh, ra_br, ra_bx, ra_raw, va_sh, va_nt, va_nf, va_raw, hb_n, hb_sh, hb_bx, hb_raw, hb_br, sh_n, sh_c, tr_n, tr_b, tr_i, tr_l, tr_t, ty_n, ty_b, ty_i, ty_s, ty_l, ty_t, if_ff, if_tt, Env.set, List.getElem?_cons_succ, List.getElem?_cons_zero, List.set_cons_succ, List.set_cons_zero, List.reverse_cons, List.reverse_nil, List.nil_append, List.cons_append, Option.bind_some, ite_true, ite_false]
    rw [List.all_map]
    exact q
  · try dsimp only [dVar_, gv_sh, gv_ow, gv_bx, gv_raw, gv_st, dC, dRaw, dOp, dUn, dTest, dTruth, dAnd, dOr, dNot, dYes, dIf, dAndV, dOrV, dNotV, dNotT, dChain, dNil, dCons, dTup, dLst, dats, dCB, dNoP, dPart, dSl, dNext, dBreak, dCont, dNever, dDrop, dRet, dRetN, dIfS, dSetG, dPar, dPar3, dAppend, dAppPop, dSetIx, dExt, dAug, dSet0, dSAdd, dSNotIn, dIter_, gi_l, gi_t, gi_b, dRng1, dRng2, dName, dGNil, dGCons, dGTup, dAsg, dFor, dWhile, dCall, dCallR, dArgs_, ga_f, ga_t, argsOf, dLc, wipeE, dListRg, dIndex, dSortSet, dSortSc, dEnum, dZip, dIsi, dIsi2, isaT, φI, φB, φC, φNeg, add_i, add_l, add_t, mul_i, mul_l, φIx, sl_l, sl_t, eq_i, eq_s, eq_l, eq_t, eq_b, eq_n, φIsN, isN_n, isN_b, isN_i, isN_s, isN_l, isN_t, φLen, φList, φTuple, φAbs, φInt, φMax, φIsB, its_l, its_t, rd_sh, rd_nw, rd_br, rp_sh, rp_nw, rp_br, rp_bx, rp_raw, rp_sr, rr_sh, rr_nw, rr_br, ra_sh, ra_br, ra_bx, ra_raw, va_sh, va_nt, va_nf, va_raw, hb_n, hb_sh, hb_bx, hb_raw, hb_br, sh_n, sh_c, tr_n, tr_b, tr_i, tr_l, tr_t, ty_n, ty_b, ty_i, ty_s, ty_l, ty_t, if_ff, if_tt, Env.set, List.getElem?_cons_succ, List.getElem?_cons_zero, List.set_cons_succ, List.set_cons_zero, List.reverse_cons, List.reverse_nil, List.nil_append, List.cons_append, Option.bind_some, ite_true, ite_false]
    refine lc_all PyData.int (fun t => .bool (decide (gt ns t = t))) ns [] st hl ?_
    try dsimp only [dVar_, gv_sh, gv_ow, gv_bx, gv_raw, gv_st, dC, dRaw, dOp, dUn, dTest, dTruth, dAnd, dOr, dNot, dYes, dIf, dAndV, dOrV, dNotV, dNotT, dChain, dNil, dCons, dTup, dLst, dats, dCB, dNoP, dPart, dSl, dNext, dBreak, dCont, dNever, dDrop, dRet, dRetN, dIfS, dSetG, dPar, dPar3, dAppend, dAppPop, dSetIx, dExt, dAug, dSet0, dSAdd, dSNotIn, dIter_, gi_l, gi_t, gi_b, dRng1, dRng2, dName, dGNil, dGCons, dGTup, dAsg, dFor, dWhile, dCall, dCallR, dArgs_, ga_f, ga_t, argsOf, dLc, wipeE, dListRg, dIndex, dSortSet, dSortSc, dEnum, dZip, dIsi, dIsi2, isaT, φI, φB, φC, φNeg, add_i, add_l, add_t, mul_i, mul_l, φIx, sl_l, sl_t, eq_i, eq_s, eq_l, eq_t, eq_b, eq_n, φIsN, isN_n, isN_b, isN_i, isN_s, isN_l, isN_t, φLen, φList, φTuple, φAbs, φInt, φMax, φIsB, its_l, its_t, rd_sh, rd_nw, rd_br, rp_sh, rp_nw, rp_br, rp_bx, rp_raw, rp_sr, rr_sh, rr_nw, rr_br, ra_sh, ra_br, ra_bx, ra_raw, va_sh, va_nt, va_nf, va_raw, hb_n, hb_sh, hb_bx, hb_raw, hb_br, sh_n, sh_c, tr_n, tr_b, tr_i, tr_l, tr_t, ty_n, ty_b, ty_i, ty_s, ty_l, ty_t, if_ff, if_tt, Env.set, List.getElem?_cons_succ, List.getElem?_cons_zero, List.set_cons_succ, List.set_cons_zero, List.reverse_cons, List.reverse_nil, List.nil_append, List.cons_append, Option.bind_some, ite_true, ite_false]
    rw [dB_map]
    refine φAll_dB ?_
    try dsimp only [dVar_, gv_sh, gv_ow, gv_bx, gv_raw, gv_st, dC, dRaw, dOp, dUn, dTest, dTruth, dAnd, dOr, dNot, dYes, dIf, dAndV, dOrV, dNotV, dNotT, dChain, dNil, dCons, dTup, dLst, dats, dCB, dNoP, dPart, dSl, dNext, dBreak, dCont, dNever, dDrop, dRet, dRetN, dIfS, dSetG, dPar, dPar3, dAppend, dAppPop, dSetIx, dExt, dAug, dSet0, dSAdd, dSNotIn, dIter_, gi_l, gi_t, gi_b, dRng1, dRng2, dName, dGNil, dGCons, dGTup, dAsg, dFor, dWhile, dCall, dCallR, dArgs_, ga_f, ga_t, argsOf, dLc, wipeE, dListRg, dIndex, dSortSet, dSortSc, dEnum, dZip, dIsi, dIsi2, isaT, φI, φB, φC, φNeg, add_i, add_l, add_t, mul_i, mul_l, φIx, sl_l, sl_t, eq_i, eq_s, eq_l, eq_t, eq_b, eq_n, φIsN, isN_n, isN_b, isN_i, isN_s, isN_l, isN_t, φLen, φList, φTuple, φAbs, φInt, φMax, φIsB, its_l, its_t, rd_sh, rd_nw, rd_br, rp_sh, rp_nw, rp_br, rp_bx, rp_raw, rp_sr, rr_sh, rr_nw, rr_br, ra_sh, ra_br, ra_bx, ra_raw, va_sh, va_nt, va_nf, va_raw, hb_n, hb_sh, hb_bx, hb_raw, hb_br, sh_n, sh_c, tr_n, tr_b, tr_i, tr_l, tr_t, ty_n, ty_b, ty_i, ty_s, ty_l, ty_t, if_ff, if_tt, Env.set, List.getElem?_cons_succ, List.getElem?_cons_zero, List.set_cons_succ, List.set_cons_zero, List.reverse_cons, List.reverse_nil, List.nil_append, List.cons_append, Option.bind_some, ite_true, ite_false]
    rw [List.all_map]
    exact q
theorem dI_lens (RS : List (List Int)) : (RS.map fun r => PyData.int (r.length : Nat)) = dI (RS.map fun r => ((r.length : Nat) : Int)) := by
  show _ = (RS.map _).map _
  rw [List.map_map]; rfl
theorem ring_le {ns : List Int} (h : Stt ns) {p : Int} (hp : Per ns p) : (ringF ns p).length ≤ ns.length := by
  unfold ringF turnF
  rw [List.length_append, List.length_drop, List.length_take, List.length_drop]
  have := (route_len h hp).2
  omega
theorem RingsOf.mem {ns : List Int} (h : Stt ns) {RS : List (List Int)} (hR : RingsOf ns RS) {r : List Int} (hr : r ∈ RS) : r ≠ [] ∧ r.length ≤ ns.length := by
  obtain ⟨j, hj, rfl⟩ := (hR.2.2 r).mp hr
  exact ⟨ring_ne h (per_nat hj), ring_le h (per_nat hj)⟩
theorem RingsOf.len {ns : List Int} {RS : List (List Int)} (hR : RingsOf ns RS) : RS.length ≤ ns.length := by
  have := nd_subG RS ((List.range ns.length).map fun i : Nat => ringF ns (i : Int)) hR.1 fun r hr => by
    obtain ⟨j, hj, e⟩ := (hR.2.2 r).mp hr
    exact List.mem_map.mpr ⟨j, List.mem_range.mpr hj, e⟩
  rw [List.length_map, List.length_range] at this
  exact this
/-- rests_many: state, ring -/
def b_rests_many : DTS := (dRet (dCall p_product (dCons (dLc (dIter (dCall p_rings (dCons (dVar 0) dNil))) (dName 1) dYes (dCB φLen (dCons (dVar 1) dNil)) [1]) dNil)))
abbrev k_rests_many : Nat := 1
def p_rests_many : DSp := fun args c Q => ∃ (d : PyData) (ns : List Int), args = [.sh d] ∧ PyData.its d = some (dI ns) ∧ Stt ns ∧ ns.length < 64 ∧ ∀ RS, RingsOf ns RS → Q (.sh (.int (prodL (RS.map fun r => ((r.length : Nat) : Int))))) c
theorem mon_rests_many : MonF p_rests_many := fun args c A B h ⟨d, ns, ea, h1, h2, h3, q⟩ => ⟨d, ns, ea, h1, h2, h3, fun RS hR => h _ _ (q RS hR)⟩
theorem m_rests_many : ∀ args c Q, p_rests_many args c Q → defF k_rests_many b_rests_many args c Q := by
  rintro _ c Q ⟨d, ns, rfl, h1, h2, h3, q⟩
  show b_rests_many _ ⟨[.sh d, .un], c⟩
  unfold b_rests_many
  try dsimp only [dVar_, gv_sh, gv_ow, gv_bx, gv_raw, gv_st, dC, dRaw, dOp, dUn, dTest, dTruth, dAnd, dOr, dNot, dYes, dIf, dAndV, dOrV, dNotV, dNotT, dChain, dNil, dCons, dTup, dLst, dats, dCB, dNoP, dPart, dSl, dNext, dBreak, dCont, dNever, dDrop, dRet, dRetN, dIfS, dSetG, dPar, dPar3, dAppend, dAppPop, dSetIx, dExt, dAug, dSet0, dSAdd, dSNotIn, dIter_, gi_l, gi_t, gi_b, dRng1, dRng2, dName, dGNil, dGCons, dGTup, dAsg, dFor, dWhile, dCall, dCallR, dArgs_, ga_f, ga_t, argsOf, dLc, wipeE, dListRg, dIndex, dSortSet, dSortSc, dEnum, dZip, dIsi, dIsi2, isaT, φI, φB, φC, φNeg, add_i, add_l, add_t, mul_i, mul_l, φIx, sl_l, sl_t, eq_i, eq_s, eq_l, eq_t, eq_b, eq_n, φIsN, isN_n, isN_b, isN_i, isN_s, isN_l, isN_t, φLen, φList, φTuple, φAbs, φInt, φMax, φIsB, its_l, its_t, rd_sh, rd_nw, rd_br, rp_sh, rp_nw, rp_br, rp_bx, rp_raw, rp_sr, rr_sh, rr_nw, rr_br, ra_sh, ra_br, ra_bx, ra_raw, va_sh, va_nt, va_nf, va_raw, hb_n, hb_sh, hb_bx, hb_raw, hb_br, sh_n, sh_c, tr_n, tr_b, tr_i, tr_l, tr_t, ty_n, ty_b, ty_i, ty_s, ty_l, ty_t, if_ff, if_tt, Env.set, List.getElem?_cons_succ, List.getElem?_cons_zero, List.set_cons_succ, List.set_cons_zero, List.reverse_cons, List.reverse_nil, List.nil_append, List.cons_append, Option.bind_some, ite_true, ite_false]
  refine c_rings h1 h2 h3 fun RS hR => ?_
  try dsimp only [dVar_, gv_sh, gv_ow, gv_bx, gv_raw, gv_st, dC, dRaw, dOp, dUn, dTest, dTruth, dAnd, dOr, dNot, dYes, dIf, dAndV, dOrV, dNotV, dNotT, dChain, dNil, dCons, dTup, dLst, dats, dCB, dNoP, dPart, dSl, dNext, dBreak, dCont, dNever, dDrop, dRet, dRetN, dIfS, dSetG, dPar, dPar3, dAppend, dAppPop, dSetIx, dExt, dAug, dSet0, dSAdd, dSNotIn, dIter_, gi_l, gi_t, gi_b, dRng1, dRng2, dName, dGNil, dGCons, dGTup, dAsg, dFor, dWhile, dCall, dCallR, dArgs_, ga_f, ga_t, argsOf, dLc, wipeE, dListRg, dIndex, dSortSet, dSortSc, dEnum, dZip, dIsi, dIsi2, isaT, φI, φB, φC, φNeg, add_i, add_l, add_t, mul_i, mul_l, φIx, sl_l, sl_t, eq_i, eq_s, eq_l, eq_t, eq_b, eq_n, φIsN, isN_n, isN_b, isN_i, isN_s, isN_l, isN_t, φLen, φList, φTuple, φAbs, φInt, φMax, φIsB, its_l, its_t, rd_sh, rd_nw, rd_br, rp_sh, rp_nw, rp_br, rp_bx, rp_raw, rp_sr, rr_sh, rr_nw, rr_br, ra_sh, ra_br, ra_bx, ra_raw, va_sh, va_nt, va_nf, va_raw, hb_n, hb_sh, hb_bx, hb_raw, hb_br, sh_n, sh_c, tr_n, tr_b, tr_i, tr_l, tr_t, ty_n, ty_b, ty_i, ty_s, ty_l, ty_t, if_ff, if_tt, Env.set, List.getElem?_cons_succ, List.getElem?_cons_zero, List.set_cons_succ, List.set_cons_zero, List.reverse_cons, List.reverse_nil, List.nil_append, List.cons_append, Option.bind_some, ite_true, ite_false]
  have hl := hR.len
  refine lc_all (fun r => .tuple (dI r)) (fun r : List Int => .int (r.length : Nat)) RS [] (fun r hr K hK => ?_) (by show 0 + _ ≤ _; omega) ?_
  · try dsimp only [dVar_, gv_sh, gv_ow, gv_bx, gv_raw, gv_st, dC, dRaw, dOp, dUn, dTest, dTruth, dAnd, dOr, dNot, dYes, dIf, dAndV, dOrV, dNotV, dNotT, dChain, dNil, dCons, dTup, dLst, dats, dCB, dNoP, dPart, dSl, dNext, dBreak, dCont, dNever, dDrop, dRet, dRetN, dIfS, dSetG, dPar, dPar3, dAppend, dAppPop, dSetIx, dExt, dAug, dSet0, dSAdd, dSNotIn, dIter_, gi_l, gi_t, gi_b, dRng1, dRng2, dName, dGNil, dGCons, dGTup, dAsg, dFor, dWhile, dCall, dCallR, dArgs_, ga_f, ga_t, argsOf, dLc, wipeE, dListRg, dIndex, dSortSet, dSortSc, dEnum, dZip, dIsi, dIsi2, isaT, φI, φB, φC, φNeg, add_i, add_l, add_t, mul_i, mul_l, φIx, sl_l, sl_t, eq_i, eq_s, eq_l, eq_t, eq_b, eq_n, φIsN, isN_n, isN_b, isN_i, isN_s, isN_l, isN_t, φLen, φList, φTuple, φAbs, φInt, φMax, φIsB, its_l, its_t, rd_sh, rd_nw, rd_br, rp_sh, rp_nw, rp_br, rp_bx, rp_raw, rp_sr, rr_sh, rr_nw, rr_br, ra_sh, ra_br, ra_bx, ra_raw, va_sh, va_nt, va_nf, va_raw, hb_n, hb_sh, hb_bx, hb_raw, hb_br, sh_n, sh_c, tr_n, tr_b, tr_i, tr_l, tr_t, ty_n, ty_b, ty_i, ty_s, ty_l, ty_t, if_ff, if_tt, Env.set, List.getElem?_cons_succ, List.getElem?_cons_zero, List.set_cons_succ, List.set_cons_zero, List.reverse_cons, List.reverse_nil, List.nil_append, List.cons_append, Option.bind_some, ite_true, ite_false]
    refine hK _ _ ?_ rfl
    try dsimp only [dVar_, gv_sh, gv_ow, gv_bx, gv_raw, gv_st, dC, dRaw, dOp, dUn, dTest, dTruth, dAnd, dOr, dNot, dYes, dIf, dAndV, dOrV, dNotV, dNotT, dChain, dNil, dCons, dTup, dLst, dats, dCB, dNoP, dPart, dSl, dNext, dBreak, dCont, dNever, dDrop, dRet, dRetN, dIfS, dSetG, dPar, dPar3, dAppend, dAppPop, dSetIx, dExt, dAug, dSet0, dSAdd, dSNotIn, dIter_, gi_l, gi_t, gi_b, dRng1, dRng2, dName, dGNil, dGCons, dGTup, dAsg, dFor, dWhile, dCall, dCallR, dArgs_, ga_f, ga_t, argsOf, dLc, wipeE, dListRg, dIndex, dSortSet, dSortSc, dEnum, dZip, dIsi, dIsi2, isaT, φI, φB, φC, φNeg, add_i, add_l, add_t, mul_i, mul_l, φIx, sl_l, sl_t, eq_i, eq_s, eq_l, eq_t, eq_b, eq_n, φIsN, isN_n, isN_b, isN_i, isN_s, isN_l, isN_t, φLen, φList, φTuple, φAbs, φInt, φMax, φIsB, its_l, its_t, rd_sh, rd_nw, rd_br, rp_sh, rp_nw, rp_br, rp_bx, rp_raw, rp_sr, rr_sh, rr_nw, rr_br, ra_sh, ra_br, ra_bx, ra_raw, va_sh, va_nt, va_nf, va_raw, hb_n, hb_sh, hb_bx, hb_raw, hb_br, sh_n, sh_c, tr_n, tr_b, tr_i, tr_l, tr_t, ty_n, ty_b, ty_i, ty_s, ty_l, ty_t, if_ff, if_tt, Env.set, List.getElem?_cons_succ, List.getElem?_cons_zero, List.set_cons_succ, List.set_cons_zero, List.reverse_cons, List.reverse_nil, List.nil_append, List.cons_append, Option.bind_some, ite_true, ite_false]
    rw [dI_len]
  · try dsimp only [dVar_, gv_sh, gv_ow, gv_bx, gv_raw, gv_st, dC, dRaw, dOp, dUn, dTest, dTruth, dAnd, dOr, dNot, dYes, dIf, dAndV, dOrV, dNotV, dNotT, dChain, dNil, dCons, dTup, dLst, dats, dCB, dNoP, dPart, dSl, dNext, dBreak, dCont, dNever, dDrop, dRet, dRetN, dIfS, dSetG, dPar, dPar3, dAppend, dAppPop, dSetIx, dExt, dAug, dSet0, dSAdd, dSNotIn, dIter_, gi_l, gi_t, gi_b, dRng1, dRng2, dName, dGNil, dGCons, dGTup, dAsg, dFor, dWhile, dCall, dCallR, dArgs_, ga_f, ga_t, argsOf, dLc, wipeE, dListRg, dIndex, dSortSet, dSortSc, dEnum, dZip, dIsi, dIsi2, isaT, φI, φB, φC, φNeg, add_i, add_l, add_t, mul_i, mul_l, φIx, sl_l, sl_t, eq_i, eq_s, eq_l, eq_t, eq_b, eq_n, φIsN, isN_n, isN_b, isN_i, isN_s, isN_l, isN_t, φLen, φList, φTuple, φAbs, φInt, φMax, φIsB, its_l, its_t, rd_sh, rd_nw, rd_br, rp_sh, rp_nw, rp_br, rp_bx, rp_raw, rp_sr, rr_sh, rr_nw, rr_br, ra_sh, ra_br, ra_bx, ra_raw, va_sh, va_nt, va_nf, va_raw, hb_n, hb_sh, hb_bx, hb_raw, hb_br, sh_n, sh_c, tr_n, tr_b, tr_i, tr_l, tr_t, ty_n, ty_b, ty_i, ty_s, ty_l, ty_t, if_ff, if_tt, Env.set, List.getElem?_cons_succ, List.getElem?_cons_zero, List.set_cons_succ, List.set_cons_zero, List.reverse_cons, List.reverse_nil, List.nil_append, List.cons_append, Option.bind_some, ite_true, ite_false]
    rw [dI_lens]
    refine ⟨.list _, _, 7, rfl, rfl, fun f hf => ?_, ?_, q RS hR⟩
    · obtain ⟨r, hr, rfl⟩ := List.mem_map.mp hf
      have := (hR.mem h2 hr).2
      omega
    · rw [List.length_map]; omega
end Lp

namespace Lp
open PySem PySem.Spec PyProof.Rows L2
/-! ### draws -/
def p_law_take : DSp := fun args c Q => ∃ span : Int, args = [.bx, .sh (.int span)] ∧ 1 ≤ span ∧ span ≤ 10000000000000 ∧ c ≤ 900000000 ∧ ∀ (r : Int) (c' : Nat), 0 ≤ r → r < span → c' ≤ c + 3 → Q (.sh (.int r)) c'
theorem mon_law_take : MonF p_law_take := fun args c A B h ⟨s, e, h1, h2, h3, q⟩ => ⟨s, e, h1, h2, h3, fun r c' a b d => h _ _ (q r c' a b d)⟩
theorem c_take {span : Int} {c : Nat} {Q : R → Nat → Prop} (h1 : 1 ≤ span) (h2 : span ≤ 10000000000000) (h3 : c ≤ 900000000) (q : ∀ (r : Int) (c' : Nat), 0 ≤ r → r < span → c' ≤ c + 3 → Q (.sh (.int r)) c') : p_law_take [.bx, .sh (.int span)] c Q := ⟨span, rfl, h1, h2, h3, q⟩
/-- _law_pick: _law_box_here, _law_some -/
def b_law_pick : DTS := (dRet (dOp φIx (dVar 1) (dCall p_law_take (dCons (dVar 0) (dCons (dCB φLen (dCons (dVar 1) dNil)) dNil)))))
abbrev k_law_pick : Nat := 0
def p_law_pick : DSp := fun args c Q => ∃ (d : PyData) (ds : List PyData), args = [.bx, .sh d] ∧ PyData.its d = some ds ∧ ds ≠ [] ∧ ds.length ≤ 1000000 ∧ c ≤ 900000000 ∧ ∀ e c', e ∈ ds → c' ≤ c + 3 → Q (.sh e) c'
theorem mon_law_pick : MonF p_law_pick := fun args c A B h ⟨s, ds, e, h1, h2, h3, h4, q⟩ => ⟨s, ds, e, h1, h2, h3, h4, fun r c' a b => h _ _ (q r c' a b)⟩
theorem m_law_pick : ∀ args c Q, p_law_pick args c Q → defF k_law_pick b_law_pick args c Q := by
  rintro _ c Q ⟨d, ds, rfl, h1, h2, h3, h4, q⟩
  have hl : 1 ≤ ds.length := List.length_pos_iff.mpr h2
  show b_law_pick _ ⟨[.bx, .sh d], c⟩
  unfold b_law_pick
  try dsimp only [dVar_, gv_sh, gv_ow, gv_bx, gv_raw, gv_st, dC, dRaw, dOp, dUn, dTest, dTruth, dAnd, dOr, dNot, dYes, dIf, dAndV, dOrV, dNotV, dNotT, dChain, dNil, dCons, dTup, dLst, dats, dCB, dNoP, dPart, dSl, dNext, dBreak, dCont, dNever, dDrop, dRet, dRetN, dIfS, dSetG, dPar, dPar3, dAppend, dAppPop, dSetIx, dExt, dAug, dSet0, dSAdd, dSNotIn, dIter_, gi_l, gi_t, gi_b, dRng1, dRng2, dName, dGNil, dGCons, dGTup, dAsg, dFor, dWhile, dCall, dCallR, dArgs_, ga_f, ga_t, argsOf, dLc, wipeE, dListRg, dIndex, dSortSet, dSortSc, dEnum, dZip, dIsi, dIsi2, isaT, φI, φB, φC, φNeg, add_i, add_l, add_t, mul_i, mul_l, φIx, sl_l, sl_t, eq_i, eq_s, eq_l, eq_t, eq_b, eq_n, φIsN, isN_n, isN_b, isN_i, isN_s, isN_l, isN_t, φLen, φList, φTuple, φAbs, φInt, φMax, φIsB, its_l, its_t, rd_sh, rd_nw, rd_br, rp_sh, rp_nw, rp_br, rp_bx, rp_raw, rp_sr, rr_sh, rr_nw, rr_br, ra_sh, ra_br, ra_bx, ra_raw, va_sh, va_nt, va_nf, va_raw, hb_n, hb_sh, hb_bx, hb_raw, hb_br, sh_n, sh_c, tr_n, tr_b, tr_i, tr_l, tr_t, ty_n, ty_b, ty_i, ty_s, ty_l, ty_t, if_ff, if_tt, Env.set, List.getElem?_cons_succ, List.getElem?_cons_zero, List.set_cons_succ, List.set_cons_zero, List.reverse_cons, List.reverse_nil, List.nil_append, List.cons_append, Option.bind_some, ite_true, ite_false]
  rw [h1]
  try dsimp only [dVar_, gv_sh, gv_ow, gv_bx, gv_raw, gv_st, dC, dRaw, dOp, dUn, dTest, dTruth, dAnd, dOr, dNot, dYes, dIf, dAndV, dOrV, dNotV, dNotT, dChain, dNil, dCons, dTup, dLst, dats, dCB, dNoP, dPart, dSl, dNext, dBreak, dCont, dNever, dDrop, dRet, dRetN, dIfS, dSetG, dPar, dPar3, dAppend, dAppPop, dSetIx, dExt, dAug, dSet0, dSAdd, dSNotIn, dIter_, gi_l, gi_t, gi_b, dRng1, dRng2, dName, dGNil, dGCons, dGTup, dAsg, dFor, dWhile, dCall, dCallR, dArgs_, ga_f, ga_t, argsOf, dLc, wipeE, dListRg, dIndex, dSortSet, dSortSc, dEnum, dZip, dIsi, dIsi2, isaT, φI, φB, φC, φNeg, add_i, add_l, add_t, mul_i, mul_l, φIx, sl_l, sl_t, eq_i, eq_s, eq_l, eq_t, eq_b, eq_n, φIsN, isN_n, isN_b, isN_i, isN_s, isN_l, isN_t, φLen, φList, φTuple, φAbs, φInt, φMax, φIsB, its_l, its_t, rd_sh, rd_nw, rd_br, rp_sh, rp_nw, rp_br, rp_bx, rp_raw, rp_sr, rr_sh, rr_nw, rr_br, ra_sh, ra_br, ra_bx, ra_raw, va_sh, va_nt, va_nf, va_raw, hb_n, hb_sh, hb_bx, hb_raw, hb_br, sh_n, sh_c, tr_n, tr_b, tr_i, tr_l, tr_t, ty_n, ty_b, ty_i, ty_s, ty_l, ty_t, if_ff, if_tt, Env.set, List.getElem?_cons_succ, List.getElem?_cons_zero, List.set_cons_succ, List.set_cons_zero, List.reverse_cons, List.reverse_nil, List.nil_append, List.cons_append, Option.bind_some, ite_true, ite_false]
  refine c_take (by omega) (by omega) h4 fun r c' r0 r1 hc => ?_
  try dsimp only [dVar_, gv_sh, gv_ow, gv_bx, gv_raw, gv_st, dC, dRaw, dOp, dUn, dTest, dTruth, dAnd, dOr, dNot, dYes, dIf, dAndV, dOrV, dNotV, dNotT, dChain, dNil, dCons, dTup, dLst, dats, dCB, dNoP, dPart, dSl, dNext, dBreak, dCont, dNever, dDrop, dRet, dRetN, dIfS, dSetG, dPar, dPar3, dAppend, dAppPop, dSetIx, dExt, dAug, dSet0, dSAdd, dSNotIn, dIter_, gi_l, gi_t, gi_b, dRng1, dRng2, dName, dGNil, dGCons, dGTup, dAsg, dFor, dWhile, dCall, dCallR, dArgs_, ga_f, ga_t, argsOf, dLc, wipeE, dListRg, dIndex, dSortSet, dSortSc, dEnum, dZip, dIsi, dIsi2, isaT, φI, φB, φC, φNeg, add_i, add_l, add_t, mul_i, mul_l, φIx, sl_l, sl_t, eq_i, eq_s, eq_l, eq_t, eq_b, eq_n, φIsN, isN_n, isN_b, isN_i, isN_s, isN_l, isN_t, φLen, φList, φTuple, φAbs, φInt, φMax, φIsB, its_l, its_t, rd_sh, rd_nw, rd_br, rp_sh, rp_nw, rp_br, rp_bx, rp_raw, rp_sr, rr_sh, rr_nw, rr_br, ra_sh, ra_br, ra_bx, ra_raw, va_sh, va_nt, va_nf, va_raw, hb_n, hb_sh, hb_bx, hb_raw, hb_br, sh_n, sh_c, tr_n, tr_b, tr_i, tr_l, tr_t, ty_n, ty_b, ty_i, ty_s, ty_l, ty_t, if_ff, if_tt, Env.set, List.getElem?_cons_succ, List.getElem?_cons_zero, List.set_cons_succ, List.set_cons_zero, List.reverse_cons, List.reverse_nil, List.nil_append, List.cons_append, Option.bind_some, ite_true, ite_false]
  rw [h1]
  have hr : r.toNat < ds.length := by omega
  exact ⟨ds[r.toNat], by rw [atI_nat r0 r1]; exact List.getElem?_eq_getElem hr, q _ _ (List.getElem_mem hr) hc⟩
/-- _law_strewn: _law_box_here, _law_some, _law_left, _law_found, _law_turn -/
def b_law_strewn : DTS := (dSeq (dPar 2 true 3 true (dCB φList (dCons (dVar 1) dNil)) (dLst dNil))
  (dSeq (dFor (dRng1 (dCons (dCB φLen (dCons (dVar 2) dNil)) dNil)) (dName 4) (dAppPop 3 2 (dCall p_law_take (dCons (dVar 0) (dCons (dCB φLen (dCons (dVar 2) dNil)) dNil)))))
  (dRet (dVar 3))))
abbrev k_law_strewn : Nat := 3
def p_law_strewn : DSp := fun args c Q => ∃ (d : PyData) (ds : List PyData), args = [.bx, .sh d] ∧ PyData.its d = some ds ∧ ds.length ≤ 100000 ∧ c + 3 * ds.length ≤ 900000000 ∧ ∀ es c', es.Perm ds → c' ≤ c + 3 * ds.length → Q (.nw es) c'
theorem mon_law_strewn : MonF p_law_strewn := fun args c A B h ⟨s, ds, e, h1, h2, h3, q⟩ => ⟨s, ds, e, h1, h2, h3, fun r c' a b => h _ _ (q r c' a b)⟩
theorem erase_perm {α : Type} : ∀ (l : List α) (i : Nat) (h : i < l.length), (l[i] :: l.eraseIdx i).Perm l
  | _ :: _, 0, _ => List.Perm.refl _
  | x :: r, i + 1, h => (List.Perm.swap x (r[i]'(Nat.lt_of_succ_lt_succ h)) (r.eraseIdx i)).trans ((erase_perm r i (Nat.lt_of_succ_lt_succ h)).cons x)
theorem perm_pop {ds es fs : List PyData} {i : Nat} {d : PyData} (hd : ds[i]? = some d) (hp : (es ++ ds).Perm fs) : ((es ++ [d]) ++ ds.eraseIdx i).Perm fs := by
  obtain ⟨hi, rfl⟩ := List.getElem?_eq_some_iff.mp hd
  refine List.Perm.trans ?_ hp
  rw [List.append_assoc]
  refine List.Perm.append_left es ?_
  exact erase_perm ds i hi
theorem strewn_loop {x : SV} {Δ : DEnds} {p : DTS} (hp : p = dAppPop 3 2 (dCall p_law_take (dCons (dVar 0) (dCons (dCB φLen (dCons (dVar 2) dNil)) dNil)))) {fs : List PyData} (hfs : fs.length ≤ 100000) :
    ∀ (js ds es : List PyData) (y : SV) (c : Nat), js.length = ds.length → (es ++ ds).Perm fs → c + 3 * ds.length ≤ 900000000 → (∀ es c' y, es.Perm fs → c' ≤ c + 3 * ds.length → Δ.nx ⟨[.bx, x, .ow [], .ow es, y], c'⟩) →
      forD (dName 4) p Δ js ⟨[.bx, x, .ow ds, .ow es, y], c⟩
  | [], ds, es, y, c, hl, hp, hc, q => by
    have : ds = [] := List.length_eq_zero_iff.mp hl.symm
    subst this
    rw [List.append_nil] at hp
    exact q es c y hp (by omega)
  | j :: js, ds, es, y, c, hl, hq, hc, q => by
    have hlen : (es ++ ds).length = fs.length := hq.length_eq
    rw [List.length_append] at hlen
    rw [List.length_cons] at hl
    refine for_cons ?_
    subst hp
    try dsimp only [dVar_, gv_sh, gv_ow, gv_bx, gv_raw, gv_st, dC, dRaw, dOp, dUn, dTest, dTruth, dAnd, dOr, dNot, dYes, dIf, dAndV, dOrV, dNotV, dNotT, dChain, dNil, dCons, dTup, dLst, dats, dCB, dNoP, dPart, dSl, dNext, dBreak, dCont, dNever, dDrop, dRet, dRetN, dIfS, dSetG, dPar, dPar3, dAppend, dAppPop, dSetIx, dExt, dAug, dSet0, dSAdd, dSNotIn, dIter_, gi_l, gi_t, gi_b, dRng1, dRng2, dName, dGNil, dGCons, dGTup, dAsg, dFor, dWhile, dCall, dCallR, dArgs_, ga_f, ga_t, argsOf, dLc, wipeE, dListRg, dIndex, dSortSet, dSortSc, dEnum, dZip, dIsi, dIsi2, isaT, φI, φB, φC, φNeg, add_i, add_l, add_t, mul_i, mul_l, φIx, sl_l, sl_t, eq_i, eq_s, eq_l, eq_t, eq_b, eq_n, φIsN, isN_n, isN_b, isN_i, isN_s, isN_l, isN_t, φLen, φList, φTuple, φAbs, φInt, φMax, φIsB, its_l, its_t, rd_sh, rd_nw, rd_br, rp_sh, rp_nw, rp_br, rp_bx, rp_raw, rp_sr, rr_sh, rr_nw, rr_br, ra_sh, ra_br, ra_bx, ra_raw, va_sh, va_nt, va_nf, va_raw, hb_n, hb_sh, hb_bx, hb_raw, hb_br, sh_n, sh_c, tr_n, tr_b, tr_i, tr_l, tr_t, ty_n, ty_b, ty_i, ty_s, ty_l, ty_t, if_ff, if_tt, Env.set, List.getElem?_cons_succ, List.getElem?_cons_zero, List.set_cons_succ, List.set_cons_zero, List.reverse_cons, List.reverse_nil, List.nil_append, List.cons_append, Option.bind_some, ite_true, ite_false]
    refine c_take (by omega) (by omega) (by omega) fun r c' r0 r1 hc' => ?_
    try dsimp only [dVar_, gv_sh, gv_ow, gv_bx, gv_raw, gv_st, dC, dRaw, dOp, dUn, dTest, dTruth, dAnd, dOr, dNot, dYes, dIf, dAndV, dOrV, dNotV, dNotT, dChain, dNil, dCons, dTup, dLst, dats, dCB, dNoP, dPart, dSl, dNext, dBreak, dCont, dNever, dDrop, dRet, dRetN, dIfS, dSetG, dPar, dPar3, dAppend, dAppPop, dSetIx, dExt, dAug, dSet0, dSAdd, dSNotIn, dIter_, gi_l, gi_t, gi_b, dRng1, dRng2, dName, dGNil, dGCons, dGTup, dAsg, dFor, dWhile, dCall, dCallR, dArgs_, ga_f, ga_t, argsOf, dLc, wipeE, dListRg, dIndex, dSortSet, dSortSc, dEnum, dZip, dIsi, dIsi2, isaT, φI, φB, φC, φNeg, add_i, add_l, add_t, mul_i, mul_l, φIx, sl_l, sl_t, eq_i, eq_s, eq_l, eq_t, eq_b, eq_n, φIsN, isN_n, isN_b, isN_i, isN_s, isN_l, isN_t, φLen, φList, φTuple, φAbs, φInt, φMax, φIsB, its_l, its_t, rd_sh, rd_nw, rd_br, rp_sh, rp_nw, rp_br, rp_bx, rp_raw, rp_sr, rr_sh, rr_nw, rr_br, ra_sh, ra_br, ra_bx, ra_raw, va_sh, va_nt, va_nf, va_raw, hb_n, hb_sh, hb_bx, hb_raw, hb_br, sh_n, sh_c, tr_n, tr_b, tr_i, tr_l, tr_t, ty_n, ty_b, ty_i, ty_s, ty_l, ty_t, if_ff, if_tt, Env.set, List.getElem?_cons_succ, List.getElem?_cons_zero, List.set_cons_succ, List.set_cons_zero, List.reverse_cons, List.reverse_nil, List.nil_append, List.cons_append, Option.bind_some, ite_true, ite_false]
    have hr : r.toNat < ds.length := by omega
    have h4 : (ds.eraseIdx r.toNat).length = ds.length - 1 := List.length_eraseIdx_of_lt hr
    refine ⟨r0, r1, by omega, show es.length < 16777216 by omega, ds[r.toNat], List.getElem?_eq_getElem hr, ?_⟩
    exact strewn_loop rfl hfs js (ds.eraseIdx r.toNat) (es ++ [ds[r.toNat]]) _ c' (by omega) (perm_pop (List.getElem?_eq_getElem hr) hq) (by omega) fun es c2 y h1 h2 => q es c2 y h1 (by omega)
theorem m_law_strewn : ∀ args c Q, p_law_strewn args c Q → defF k_law_strewn b_law_strewn args c Q := by
  rintro _ c Q ⟨d, ds, rfl, h1, h2, h3, q⟩
  show b_law_strewn _ ⟨[.bx, .sh d, .un, .un, .un], c⟩
  unfold b_law_strewn
  refine sq_ ?_
  try dsimp only [dVar_, gv_sh, gv_ow, gv_bx, gv_raw, gv_st, dC, dRaw, dOp, dUn, dTest, dTruth, dAnd, dOr, dNot, dYes, dIf, dAndV, dOrV, dNotV, dNotT, dChain, dNil, dCons, dTup, dLst, dats, dCB, dNoP, dPart, dSl, dNext, dBreak, dCont, dNever, dDrop, dRet, dRetN, dIfS, dSetG, dPar, dPar3, dAppend, dAppPop, dSetIx, dExt, dAug, dSet0, dSAdd, dSNotIn, dIter_, gi_l, gi_t, gi_b, dRng1, dRng2, dName, dGNil, dGCons, dGTup, dAsg, dFor, dWhile, dCall, dCallR, dArgs_, ga_f, ga_t, argsOf, dLc, wipeE, dListRg, dIndex, dSortSet, dSortSc, dEnum, dZip, dIsi, dIsi2, isaT, φI, φB, φC, φNeg, add_i, add_l, add_t, mul_i, mul_l, φIx, sl_l, sl_t, eq_i, eq_s, eq_l, eq_t, eq_b, eq_n, φIsN, isN_n, isN_b, isN_i, isN_s, isN_l, isN_t, φLen, φList, φTuple, φAbs, φInt, φMax, φIsB, its_l, its_t, rd_sh, rd_nw, rd_br, rp_sh, rp_nw, rp_br, rp_bx, rp_raw, rp_sr, rr_sh, rr_nw, rr_br, ra_sh, ra_br, ra_bx, ra_raw, va_sh, va_nt, va_nf, va_raw, hb_n, hb_sh, hb_bx, hb_raw, hb_br, sh_n, sh_c, tr_n, tr_b, tr_i, tr_l, tr_t, ty_n, ty_b, ty_i, ty_s, ty_l, ty_t, if_ff, if_tt, Env.set, List.getElem?_cons_succ, List.getElem?_cons_zero, List.set_cons_succ, List.set_cons_zero, List.reverse_cons, List.reverse_nil, List.nil_append, List.cons_append, Option.bind_some, ite_true, ite_false]
  rw [h1]
  try dsimp only [dVar_, gv_sh, gv_ow, gv_bx, gv_raw, gv_st, dC, dRaw, dOp, dUn, dTest, dTruth, dAnd, dOr, dNot, dYes, dIf, dAndV, dOrV, dNotV, dNotT, dChain, dNil, dCons, dTup, dLst, dats, dCB, dNoP, dPart, dSl, dNext, dBreak, dCont, dNever, dDrop, dRet, dRetN, dIfS, dSetG, dPar, dPar3, dAppend, dAppPop, dSetIx, dExt, dAug, dSet0, dSAdd, dSNotIn, dIter_, gi_l, gi_t, gi_b, dRng1, dRng2, dName, dGNil, dGCons, dGTup, dAsg, dFor, dWhile, dCall, dCallR, dArgs_, ga_f, ga_t, argsOf, dLc, wipeE, dListRg, dIndex, dSortSet, dSortSc, dEnum, dZip, dIsi, dIsi2, isaT, φI, φB, φC, φNeg, add_i, add_l, add_t, mul_i, mul_l, φIx, sl_l, sl_t, eq_i, eq_s, eq_l, eq_t, eq_b, eq_n, φIsN, isN_n, isN_b, isN_i, isN_s, isN_l, isN_t, φLen, φList, φTuple, φAbs, φInt, φMax, φIsB, its_l, its_t, rd_sh, rd_nw, rd_br, rp_sh, rp_nw, rp_br, rp_bx, rp_raw, rp_sr, rr_sh, rr_nw, rr_br, ra_sh, ra_br, ra_bx, ra_raw, va_sh, va_nt, va_nf, va_raw, hb_n, hb_sh, hb_bx, hb_raw, hb_br, sh_n, sh_c, tr_n, tr_b, tr_i, tr_l, tr_t, ty_n, ty_b, ty_i, ty_s, ty_l, ty_t, if_ff, if_tt, Env.set, List.getElem?_cons_succ, List.getElem?_cons_zero, List.set_cons_succ, List.set_cons_zero, List.reverse_cons, List.reverse_nil, List.nil_append, List.cons_append, Option.bind_some, ite_true, ite_false]
  refine sq_ ?_
  try dsimp only [dVar_, gv_sh, gv_ow, gv_bx, gv_raw, gv_st, dC, dRaw, dOp, dUn, dTest, dTruth, dAnd, dOr, dNot, dYes, dIf, dAndV, dOrV, dNotV, dNotT, dChain, dNil, dCons, dTup, dLst, dats, dCB, dNoP, dPart, dSl, dNext, dBreak, dCont, dNever, dDrop, dRet, dRetN, dIfS, dSetG, dPar, dPar3, dAppend, dAppPop, dSetIx, dExt, dAug, dSet0, dSAdd, dSNotIn, dIter_, gi_l, gi_t, gi_b, dRng1, dRng2, dName, dGNil, dGCons, dGTup, dAsg, dFor, dWhile, dCall, dCallR, dArgs_, ga_f, ga_t, argsOf, dLc, wipeE, dListRg, dIndex, dSortSet, dSortSc, dEnum, dZip, dIsi, dIsi2, isaT, φI, φB, φC, φNeg, add_i, add_l, add_t, mul_i, mul_l, φIx, sl_l, sl_t, eq_i, eq_s, eq_l, eq_t, eq_b, eq_n, φIsN, isN_n, isN_b, isN_i, isN_s, isN_l, isN_t, φLen, φList, φTuple, φAbs, φInt, φMax, φIsB, its_l, its_t, rd_sh, rd_nw, rd_br, rp_sh, rp_nw, rp_br, rp_bx, rp_raw, rp_sr, rr_sh, rr_nw, rr_br, ra_sh, ra_br, ra_bx, ra_raw, va_sh, va_nt, va_nf, va_raw, hb_n, hb_sh, hb_bx, hb_raw, hb_br, sh_n, sh_c, tr_n, tr_b, tr_i, tr_l, tr_t, ty_n, ty_b, ty_i, ty_s, ty_l, ty_t, if_ff, if_tt, Env.set, List.getElem?_cons_succ, List.getElem?_cons_zero, List.set_cons_succ, List.set_cons_zero, List.reverse_cons, List.reverse_nil, List.nil_append, List.cons_append, Option.bind_some, ite_true, ite_false]
  refine ⟨by omega, rfl, strewn_loop rfl h2 _ ds [] _ c (by unfold rgD; rw [List.length_map, List.length_range, Int.toNat_natCast]) (List.Perm.refl _) h3 fun es c' y hp hc => ?_⟩
  try dsimp only [dVar_, gv_sh, gv_ow, gv_bx, gv_raw, gv_st, dC, dRaw, dOp, dUn, dTest, dTruth, dAnd, dOr, dNot, dYes, dIf, dAndV, dOrV, dNotV, dNotT, dChain, dNil, dCons, dTup, dLst, dats, dCB, dNoP, dPart, dSl, dNext, dBreak, dCont, dNever, dDrop, dRet, dRetN, dIfS, dSetG, dPar, dPar3, dAppend, dAppPop, dSetIx, dExt, dAug, dSet0, dSAdd, dSNotIn, dIter_, gi_l, gi_t, gi_b, dRng1, dRng2, dName, dGNil, dGCons, dGTup, dAsg, dFor, dWhile, dCall, dCallR, dArgs_, ga_f, ga_t, argsOf, dLc, wipeE, dListRg, dIndex, dSortSet, dSortSc, dEnum, dZip, dIsi, dIsi2, isaT, φI, φB, φC, φNeg, add_i, add_l, add_t, mul_i, mul_l, φIx, sl_l, sl_t, eq_i, eq_s, eq_l, eq_t, eq_b, eq_n, φIsN, isN_n, isN_b, isN_i, isN_s, isN_l, isN_t, φLen, φList, φTuple, φAbs, φInt, φMax, φIsB, its_l, its_t, rd_sh, rd_nw, rd_br, rp_sh, rp_nw, rp_br, rp_bx, rp_raw, rp_sr, rr_sh, rr_nw, rr_br, ra_sh, ra_br, ra_bx, ra_raw, va_sh, va_nt, va_nf, va_raw, hb_n, hb_sh, hb_bx, hb_raw, hb_br, sh_n, sh_c, tr_n, tr_b, tr_i, tr_l, tr_t, ty_n, ty_b, ty_i, ty_s, ty_l, ty_t, if_ff, if_tt, Env.set, List.getElem?_cons_succ, List.getElem?_cons_zero, List.set_cons_succ, List.set_cons_zero, List.reverse_cons, List.reverse_nil, List.nil_append, List.cons_append, Option.bind_some, ite_true, ite_false]
  exact q es c' hp hc
/-! ### states that are drawn -/
/-- _law_net_of: _law_box_here, _law_length, _law_kind, _law_row, _law_turn_at, _law_found, _law_at, _law_who -/
def b_law_net_of : DTS := (dSeq (dSetG false 3 (dCall p_law_strewn (dCons (dVar 0) (dCons (dListRg (dVar 1)) dNil))))
  (dSeq (dSetG false 4 (dOp φIx (dLst (dCons (dC (.int 0)) (dCons (dVar 1) (dCons (dC (.int 1)) (dCons (dOp φAdd (dC (.int 1)) (dCall p_law_take (dCons (dVar 0) (dCons (dVar 1) dNil)))) (dCons (dVar 1) (dCons (dC (.int 1)) dNil))))))) (dVar 2)))
  (dSeq (dIfS (dTest (dOp (φEq false) (dVar 2) (dC (.int 4)))) (dRet (dCB φTuple (dCons (dVar 3) dNil))) dNext)
  (dSeq (dSetG true 5 (dOp φMul (dLst (dCons (dC (.int 0)) dNil)) (dVar 1)))
  (dSeq (dFor (dEnum (dCons (dVar 3) dNil)) (dGTup 2 (dGCons (dName 6) (dGCons (dName 7) dGNil))) (dIfS (dTest (dOp (φEq false) (dVar 2) (dC (.int 0)))) (dSetIx 5 (dCall p_law_take (dCons (dVar 0) (dCons (dVar 1) dNil))) (dVar 7)) (dIfS (dTest (dOp (φB fun i j => decide (i < j)) (dVar 6) (dVar 4))) (dSetIx 5 (dOp φIx (dVar 3) (dOp (φC (fun _ j => 0 < j) fun i j => i % j) (dOp φAdd (dVar 6) (dC (.int 1))) (dVar 4))) (dVar 7)) (dSetIx 5 (dIf (dTest (dOp (φEq false) (dVar 2) (dC (.int 5)))) (dOp φIx (dVar 3) (dOp (φI fun i j => i - j) (dVar 6) (dC (.int 1)))) (dOp φIx (dVar 3) (dCall p_law_take (dCons (dVar 0) (dCons (dVar 6) dNil))))) (dVar 7)))))
  (dRet (dCB φTuple (dCons (dVar 5) dNil))))))))
abbrev k_law_net_of : Nat := 5
def NetOk (n : Nat) (ns : List Int) : Prop := ns.length = n ∧ Low n ns
def p_law_net_of : DSp := fun args c Q => ∃ (n k : Int), args = [.bx, .sh (.int n), .sh (.int k)] ∧ 1 ≤ n ∧ n ≤ 1000 ∧ 0 ≤ k ∧ k < 6 ∧ c ≤ 800000000 ∧ ∀ ns c', NetOk n.toNat ns → c' ≤ c + 10000 → Q (.sh (.tuple (dI ns))) c'
theorem mon_law_net_of : MonF p_law_net_of := fun args c A B h ⟨n, k, e, h1, h2, h3, h4, h5, q⟩ => ⟨n, k, e, h1, h2, h3, h4, h5, fun r c' a b => h _ _ (q r c' a b)⟩
def unI : PyData → Int
  | .int z => z
  | _ => 0
theorem perm_dI {es : List PyData} {ns : List Int} (h : es.Perm (dI ns)) : ∃ ms : List Int, es = dI ms ∧ ms.Perm ns := by
  refine ⟨es.map unI, ?_, ?_⟩
  · show es = (es.map unI).map _
    rw [List.map_map]
    refine (List.map_id es).symm.trans (List.map_congr_left fun e he => ?_)
    obtain ⟨z, _, rfl⟩ := List.mem_map.mp (h.mem_iff.mp he)
    rfl
  · have := h.map unI
    have e : (dI ns).map unI = ns := by
      show (ns.map _).map _ = ns
      rw [List.map_map]
      exact List.map_id ns
    rw [e] at this
    exact this
theorem perm_rg {n : Nat} {es : List PyData} (h : es.Perm (rgD 0 n)) : ∃ ms : List Int, es = dI ms ∧ ms.Perm ((List.range n).map fun i : Nat => (i : Int)) := by
  have : rgD 0 n = dI ((List.range n).map fun i : Nat => (i : Int)) := by
    rw [rg0]; show _ = ((List.range n).map _).map _; rw [List.map_map]; rfl
  rw [this] at h
  obtain ⟨ms, e, hp⟩ := perm_dI h
  exact ⟨ms, e, hp⟩
theorem perm_low {n : Nat} {ms : List Int} (h : ms.Perm ((List.range n).map fun i : Nat => (i : Int))) : ms.length = n ∧ Low n ms := by
  refine ⟨by rw [h.length_eq, List.length_map, List.length_range], fun z hz => ?_⟩
  obtain ⟨j, hj, rfl⟩ := List.mem_map.mp (h.mem_iff.mp hz)
  have := List.mem_range.mp hj
  omega
theorem enD_dI (ms : List Int) : enD (dI ms) = ms.zipIdx.map fun p => .tuple [.int (p.2 : Nat), .int p.1] := by
  unfold enD
  rw [List.mapIdx_eq_zipIdx_map]
  show ((ms.map _).zipIdx).map _ = _
  rw [List.zipIdx_map, List.map_map]
  rfl
theorem net_loop {n k t : Int} {row : List Int} {Δ : DEnds} {p : DTS} (hp : p = (dIfS (dTest (dOp (φEq false) (dVar 2) (dC (.int 0)))) (dSetIx 5 (dCall p_law_take (dCons (dVar 0) (dCons (dVar 1) dNil))) (dVar 7)) (dIfS (dTest (dOp (φB fun i j => decide (i < j)) (dVar 6) (dVar 4))) (dSetIx 5 (dOp φIx (dVar 3) (dOp (φC (fun _ j => 0 < j) fun i j => i % j) (dOp φAdd (dVar 6) (dC (.int 1))) (dVar 4))) (dVar 7)) (dSetIx 5 (dIf (dTest (dOp (φEq false) (dVar 2) (dC (.int 5)))) (dOp φIx (dVar 3) (dOp (φI fun i j => i - j) (dVar 6) (dC (.int 1)))) (dOp φIx (dVar 3) (dCall p_law_take (dCons (dVar 0) (dCons (dVar 6) dNil))))) (dVar 7)))))
    (n1 : 1 ≤ n) (n2 : n ≤ 1000) (hrow : NetOk n.toNat row) (ht : k = 0 ∨ (1 ≤ t ∧ t ≤ n)) :
    ∀ (ps : List (Int × Nat)) (fs : List Int) (x y : SV) (c : Nat), (∀ q ∈ ps, row[q.2]? = some q.1) → NetOk n.toNat fs → c + 3 * ps.length ≤ 900000000 →
      (∀ fs c' x y, NetOk n.toNat fs → c' ≤ c + 3 * ps.length → Δ.nx ⟨[.bx, .sh (.int n), .sh (.int k), .sh (.list (dI row)), .sh (.int t), .ow (dI fs), x, y], c'⟩) →
      forD (dGTup 2 (dGCons (dName 6) (dGCons (dName 7) dGNil))) p Δ (ps.map fun p => .tuple [.int (p.2 : Nat), .int p.1]) ⟨[.bx, .sh (.int n), .sh (.int k), .sh (.list (dI row)), .sh (.int t), .ow (dI fs), x, y], c⟩
  | [], fs, x, y, c, _, hf, _, q => q fs c x y hf (by omega)
  | (w, a) :: ps, fs, x, y, c, hps, hf, hc, q => by
    rw [List.length_cons] at hc
    have ha : row[a]? = some w := hps (w, a) List.mem_cons_self
    have hw : 0 ≤ w ∧ w < ((n.toNat : Nat) : Int) := hrow.2 w (List.mem_of_getElem? ha)
    have ha2 : a < row.length := (List.getElem?_eq_some_iff.mp ha).1
    have hl := hrow.1
    have fl := hf.1
    have step : ∀ (v : Int) (c' : Nat), 0 ≤ v → v < n → c' ≤ c + 3 → ∃ m, ixN (dI fs).length w = some m ∧ forD (dGTup 2 (dGCons (dName 6) (dGCons (dName 7) dGNil))) p Δ (ps.map fun p => .tuple [.int (p.2 : Nat), .int p.1]) ⟨[.bx, .sh (.int n), .sh (.int k), .sh (.list (dI row)), .sh (.int t), .ow ((dI fs).set m (.int v)), .sh (.int (a : Nat)), .sh (.int w)], c'⟩ := by
      intro v c' v0 v1 hc'
      refine ⟨w.toNat, ixN_ok hw.1 (by rw [dI_len, fl]; exact hw.2), ?_⟩
      rw [dI_set]
      refine net_loop hp n1 n2 hrow ht ps (fs.set w.toNat v) _ _ c' (fun q hq => hps q (List.mem_cons_of_mem _ hq)) ⟨by rw [List.length_set]; exact fl, hf.2.set v0 (by omega)⟩ (by omega) fun gs c2 x y h1 h2 => q gs c2 x y h1 (by rw [List.length_cons]; omega)
    have ixr : ∀ i : Int, 0 ≤ i → i < n → ∃ z, atI (dI row) i = some (.int z) ∧ 0 ≤ z ∧ z < n := fun i h0 h1 => by
      have h2 : i < (row.length : Int) := by omega
      have := gt_low hrow.2 h0 h2
      exact ⟨_, atI_dI h0 h2, this.1, by omega⟩
    refine for_cons ?_
    rw [hp]
    rw [hp] at step
    try dsimp only [dVar_, gv_sh, gv_ow, gv_bx, gv_raw, gv_st, dC, dRaw, dOp, dUn, dTest, dTruth, dAnd, dOr, dNot, dYes, dIf, dAndV, dOrV, dNotV, dNotT, dChain, dNil, dCons, dTup, dLst, dats, dCB, dNoP, dPart, dSl, dNext, dBreak, dCont, dNever, dDrop, dRet, dRetN, dIfS, dSetG, dPar, dPar3, dAppend, dAppPop, dSetIx, dExt, dAug, dSet0, dSAdd, dSNotIn, dIter_, gi_l, gi_t, gi_b, dRng1, dRng2, dName, dGNil, dGCons, dGTup, dAsg, dFor, dWhile, dCall, dCallR, dArgs_, ga_f, ga_t, argsOf, dLc, wipeE, dListRg, dIndex, dSortSet, dSortSc, dEnum, dZip, dIsi, dIsi2, isaT, φI, φB, φC, φNeg, add_i, add_l, add_t, mul_i, mul_l, φIx, sl_l, sl_t, eq_i, eq_s, eq_l, eq_t, eq_b, eq_n, φIsN, isN_n, isN_b, isN_i, isN_s, isN_l, isN_t, φLen, φList, φTuple, φAbs, φInt, φMax, φIsB, its_l, its_t, rd_sh, rd_nw, rd_br, rp_sh, rp_nw, rp_br, rp_bx, rp_raw, rp_sr, rr_sh, rr_nw, rr_br, ra_sh, ra_br, ra_bx, ra_raw, va_sh, va_nt, va_nf, va_raw, hb_n, hb_sh, hb_bx, hb_raw, hb_br, sh_n, sh_c, tr_n, tr_b, tr_i, tr_l, tr_t, ty_n, ty_b, ty_i, ty_s, ty_l, ty_t, if_ff, if_tt, Env.set, List.getElem?_cons_succ, List.getElem?_cons_zero, List.set_cons_succ, List.set_cons_zero, List.reverse_cons, List.reverse_nil, List.nil_append, List.cons_append, Option.bind_some, ite_true, ite_false]
    refine ⟨rfl, ?_⟩
    refine it_2 (fun e0 => ?_) fun e0 => it_2 (fun e1 => ?_) fun e1 => ?_
    · refine c_take n1 (by omega) (by omega) fun r c' r0 r1 hc' => ?_
      exact step r c' r0 r1 hc'
    · have t1 : 1 ≤ t ∧ t ≤ n := ht.resolve_left e0
      have m0 := Int.emod_nonneg ((a : Int) + 1) (show t ≠ 0 by omega)
      have m1 := Int.emod_lt_of_pos ((a : Int) + 1) (show 0 < t by omega)
      obtain ⟨z, hz, z0, z1⟩ := ixr (((a : Int) + 1) % t) m0 (by omega)
      exact ⟨by omega, .int z, hz, step z c z0 z1 (by omega)⟩
    · have t1 : 1 ≤ t ∧ t ≤ n := ht.resolve_left e0
      refine it_2 (fun e2 => ?_) fun e2 => ?_
      · obtain ⟨z, hz, z0, z1⟩ := ixr ((a : Int) - 1) (by omega) (by omega)
        exact ⟨.int z, hz, step z c z0 z1 (by omega)⟩
      · refine c_take (by omega) (by omega) (by omega) fun r c' r0 r1 hc' => ?_
        obtain ⟨z, hz, z0, z1⟩ := ixr r r0 (by omega)
        exact ⟨.int z, hz, step z c' z0 z1 hc'⟩
theorem m_law_net_of : ∀ args c Q, p_law_net_of args c Q → defF k_law_net_of b_law_net_of args c Q := by
  rintro _ c Q ⟨n, k, rfl, h1, h2, h3, h4, h5, q⟩
  show b_law_net_of _ ⟨[.bx, .sh (.int n), .sh (.int k), .un, .un, .un, .un, .un], c⟩
  unfold b_law_net_of
  refine sq_ ?_
  try dsimp only [dVar_, gv_sh, gv_ow, gv_bx, gv_raw, gv_st, dC, dRaw, dOp, dUn, dTest, dTruth, dAnd, dOr, dNot, dYes, dIf, dAndV, dOrV, dNotV, dNotT, dChain, dNil, dCons, dTup, dLst, dats, dCB, dNoP, dPart, dSl, dNext, dBreak, dCont, dNever, dDrop, dRet, dRetN, dIfS, dSetG, dPar, dPar3, dAppend, dAppPop, dSetIx, dExt, dAug, dSet0, dSAdd, dSNotIn, dIter_, gi_l, gi_t, gi_b, dRng1, dRng2, dName, dGNil, dGCons, dGTup, dAsg, dFor, dWhile, dCall, dCallR, dArgs_, ga_f, ga_t, argsOf, dLc, wipeE, dListRg, dIndex, dSortSet, dSortSc, dEnum, dZip, dIsi, dIsi2, isaT, φI, φB, φC, φNeg, add_i, add_l, add_t, mul_i, mul_l, φIx, sl_l, sl_t, eq_i, eq_s, eq_l, eq_t, eq_b, eq_n, φIsN, isN_n, isN_b, isN_i, isN_s, isN_l, isN_t, φLen, φList, φTuple, φAbs, φInt, φMax, φIsB, its_l, its_t, rd_sh, rd_nw, rd_br, rp_sh, rp_nw, rp_br, rp_bx, rp_raw, rp_sr, rr_sh, rr_nw, rr_br, ra_sh, ra_br, ra_bx, ra_raw, va_sh, va_nt, va_nf, va_raw, hb_n, hb_sh, hb_bx, hb_raw, hb_br, sh_n, sh_c, tr_n, tr_b, tr_i, tr_l, tr_t, ty_n, ty_b, ty_i, ty_s, ty_l, ty_t, if_ff, if_tt, Env.set, List.getElem?_cons_succ, List.getElem?_cons_zero, List.set_cons_succ, List.set_cons_zero, List.reverse_cons, List.reverse_nil, List.nil_append, List.cons_append, Option.bind_some, ite_true, ite_false]
  refine ⟨by omega, by omega, ?_⟩
  have hl0 : (rgD 0 n.toNat).length = n.toNat := by unfold rgD; rw [List.length_map, List.length_range]
  refine ⟨_, _, rfl, its_l _, by omega, by omega, fun es c1 hp hc1 => ?_⟩
  obtain ⟨row, rfl, hrow⟩ := perm_rg hp
  have hrow := perm_low hrow
  refine sq_ ?_
  try dsimp only [dVar_, gv_sh, gv_ow, gv_bx, gv_raw, gv_st, dC, dRaw, dOp, dUn, dTest, dTruth, dAnd, dOr, dNot, dYes, dIf, dAndV, dOrV, dNotV, dNotT, dChain, dNil, dCons, dTup, dLst, dats, dCB, dNoP, dPart, dSl, dNext, dBreak, dCont, dNever, dDrop, dRet, dRetN, dIfS, dSetG, dPar, dPar3, dAppend, dAppPop, dSetIx, dExt, dAug, dSet0, dSAdd, dSNotIn, dIter_, gi_l, gi_t, gi_b, dRng1, dRng2, dName, dGNil, dGCons, dGTup, dAsg, dFor, dWhile, dCall, dCallR, dArgs_, ga_f, ga_t, argsOf, dLc, wipeE, dListRg, dIndex, dSortSet, dSortSc, dEnum, dZip, dIsi, dIsi2, isaT, φI, φB, φC, φNeg, add_i, add_l, add_t, mul_i, mul_l, φIx, sl_l, sl_t, eq_i, eq_s, eq_l, eq_t, eq_b, eq_n, φIsN, isN_n, isN_b, isN_i, isN_s, isN_l, isN_t, φLen, φList, φTuple, φAbs, φInt, φMax, φIsB, its_l, its_t, rd_sh, rd_nw, rd_br, rp_sh, rp_nw, rp_br, rp_bx, rp_raw, rp_sr, rr_sh, rr_nw, rr_br, ra_sh, ra_br, ra_bx, ra_raw, va_sh, va_nt, va_nf, va_raw, hb_n, hb_sh, hb_bx, hb_raw, hb_br, sh_n, sh_c, tr_n, tr_b, tr_i, tr_l, tr_t, ty_n, ty_b, ty_i, ty_s, ty_l, ty_t, if_ff, if_tt, Env.set, List.getElem?_cons_succ, List.getElem?_cons_zero, List.set_cons_succ, List.set_cons_zero, List.reverse_cons, List.reverse_nil, List.nil_append, List.cons_append, Option.bind_some, ite_true, ite_false]
  refine c_take h1 (by omega) (by omega) fun r c2 r0 r1 hc2 => ?_
  try dsimp only [dVar_, gv_sh, gv_ow, gv_bx, gv_raw, gv_st, dC, dRaw, dOp, dUn, dTest, dTruth, dAnd, dOr, dNot, dYes, dIf, dAndV, dOrV, dNotV, dNotT, dChain, dNil, dCons, dTup, dLst, dats, dCB, dNoP, dPart, dSl, dNext, dBreak, dCont, dNever, dDrop, dRet, dRetN, dIfS, dSetG, dPar, dPar3, dAppend, dAppPop, dSetIx, dExt, dAug, dSet0, dSAdd, dSNotIn, dIter_, gi_l, gi_t, gi_b, dRng1, dRng2, dName, dGNil, dGCons, dGTup, dAsg, dFor, dWhile, dCall, dCallR, dArgs_, ga_f, ga_t, argsOf, dLc, wipeE, dListRg, dIndex, dSortSet, dSortSc, dEnum, dZip, dIsi, dIsi2, isaT, φI, φB, φC, φNeg, add_i, add_l, add_t, mul_i, mul_l, φIx, sl_l, sl_t, eq_i, eq_s, eq_l, eq_t, eq_b, eq_n, φIsN, isN_n, isN_b, isN_i, isN_s, isN_l, isN_t, φLen, φList, φTuple, φAbs, φInt, φMax, φIsB, its_l, its_t, rd_sh, rd_nw, rd_br, rp_sh, rp_nw, rp_br, rp_bx, rp_raw, rp_sr, rr_sh, rr_nw, rr_br, ra_sh, ra_br, ra_bx, ra_raw, va_sh, va_nt, va_nf, va_raw, hb_n, hb_sh, hb_bx, hb_raw, hb_br, sh_n, sh_c, tr_n, tr_b, tr_i, tr_l, tr_t, ty_n, ty_b, ty_i, ty_s, ty_l, ty_t, if_ff, if_tt, Env.set, List.getElem?_cons_succ, List.getElem?_cons_zero, List.set_cons_succ, List.set_cons_zero, List.reverse_cons, List.reverse_nil, List.nil_append, List.cons_append, Option.bind_some, ite_true, ite_false]
  have ht : ∃ t : Int, atI [PyData.int 0, .int n, .int 1, .int (1 + r), .int n, .int 1] k = some (.int t) ∧ (k = 0 ∨ (1 ≤ t ∧ t ≤ n)) := by
    have : k = 0 ∨ k = 1 ∨ k = 2 ∨ k = 3 ∨ k = 4 ∨ k = 5 := by omega
    rcases this with rfl | rfl | rfl | rfl | rfl | rfl
    · exact ⟨_, rfl, .inl rfl⟩
    · exact ⟨_, rfl, .inr (by omega)⟩
    · exact ⟨_, rfl, .inr (by omega)⟩
    · exact ⟨_, rfl, .inr (by omega)⟩
    · exact ⟨_, rfl, .inr (by omega)⟩
    · exact ⟨_, rfl, .inr (by omega)⟩
  obtain ⟨t, e, ht⟩ := ht
  refine ⟨.int t, e, ?_⟩
  refine sq_ ?_
  try dsimp only [dVar_, gv_sh, gv_ow, gv_bx, gv_raw, gv_st, dC, dRaw, dOp, dUn, dTest, dTruth, dAnd, dOr, dNot, dYes, dIf, dAndV, dOrV, dNotV, dNotT, dChain, dNil, dCons, dTup, dLst, dats, dCB, dNoP, dPart, dSl, dNext, dBreak, dCont, dNever, dDrop, dRet, dRetN, dIfS, dSetG, dPar, dPar3, dAppend, dAppPop, dSetIx, dExt, dAug, dSet0, dSAdd, dSNotIn, dIter_, gi_l, gi_t, gi_b, dRng1, dRng2, dName, dGNil, dGCons, dGTup, dAsg, dFor, dWhile, dCall, dCallR, dArgs_, ga_f, ga_t, argsOf, dLc, wipeE, dListRg, dIndex, dSortSet, dSortSc, dEnum, dZip, dIsi, dIsi2, isaT, φI, φB, φC, φNeg, add_i, add_l, add_t, mul_i, mul_l, φIx, sl_l, sl_t, eq_i, eq_s, eq_l, eq_t, eq_b, eq_n, φIsN, isN_n, isN_b, isN_i, isN_s, isN_l, isN_t, φLen, φList, φTuple, φAbs, φInt, φMax, φIsB, its_l, its_t, rd_sh, rd_nw, rd_br, rp_sh, rp_nw, rp_br, rp_bx, rp_raw, rp_sr, rr_sh, rr_nw, rr_br, ra_sh, ra_br, ra_bx, ra_raw, va_sh, va_nt, va_nf, va_raw, hb_n, hb_sh, hb_bx, hb_raw, hb_br, sh_n, sh_c, tr_n, tr_b, tr_i, tr_l, tr_t, ty_n, ty_b, ty_i, ty_s, ty_l, ty_t, if_ff, if_tt, Env.set, List.getElem?_cons_succ, List.getElem?_cons_zero, List.set_cons_succ, List.set_cons_zero, List.reverse_cons, List.reverse_nil, List.nil_append, List.cons_append, Option.bind_some, ite_true, ite_false]
  refine it_2 (fun e4 => ?_) fun e4 => ?_
  · exact q row c2 hrow (by omega)
  · refine sq_ ?_
    try dsimp only [dVar_, gv_sh, gv_ow, gv_bx, gv_raw, gv_st, dC, dRaw, dOp, dUn, dTest, dTruth, dAnd, dOr, dNot, dYes, dIf, dAndV, dOrV, dNotV, dNotT, dChain, dNil, dCons, dTup, dLst, dats, dCB, dNoP, dPart, dSl, dNext, dBreak, dCont, dNever, dDrop, dRet, dRetN, dIfS, dSetG, dPar, dPar3, dAppend, dAppPop, dSetIx, dExt, dAug, dSet0, dSAdd, dSNotIn, dIter_, gi_l, gi_t, gi_b, dRng1, dRng2, dName, dGNil, dGCons, dGTup, dAsg, dFor, dWhile, dCall, dCallR, dArgs_, ga_f, ga_t, argsOf, dLc, wipeE, dListRg, dIndex, dSortSet, dSortSc, dEnum, dZip, dIsi, dIsi2, isaT, φI, φB, φC, φNeg, add_i, add_l, add_t, mul_i, mul_l, φIx, sl_l, sl_t, eq_i, eq_s, eq_l, eq_t, eq_b, eq_n, φIsN, isN_n, isN_b, isN_i, isN_s, isN_l, isN_t, φLen, φList, φTuple, φAbs, φInt, φMax, φIsB, its_l, its_t, rd_sh, rd_nw, rd_br, rp_sh, rp_nw, rp_br, rp_bx, rp_raw, rp_sr, rr_sh, rr_nw, rr_br, ra_sh, ra_br, ra_bx, ra_raw, va_sh, va_nt, va_nf, va_raw, hb_n, hb_sh, hb_bx, hb_raw, hb_br, sh_n, sh_c, tr_n, tr_b, tr_i, tr_l, tr_t, ty_n, ty_b, ty_i, ty_s, ty_l, ty_t, if_ff, if_tt, Env.set, List.getElem?_cons_succ, List.getElem?_cons_zero, List.set_cons_succ, List.set_cons_zero, List.reverse_cons, List.reverse_nil, List.nil_append, List.cons_append, Option.bind_some, ite_true, ite_false]
    refine ⟨⟨by omega, by omega, show 1 * n.toNat ≤ 16777216 by omega⟩, ?_⟩
    refine sq_ ?_
    try dsimp only [dVar_, gv_sh, gv_ow, gv_bx, gv_raw, gv_st, dC, dRaw, dOp, dUn, dTest, dTruth, dAnd, dOr, dNot, dYes, dIf, dAndV, dOrV, dNotV, dNotT, dChain, dNil, dCons, dTup, dLst, dats, dCB, dNoP, dPart, dSl, dNext, dBreak, dCont, dNever, dDrop, dRet, dRetN, dIfS, dSetG, dPar, dPar3, dAppend, dAppPop, dSetIx, dExt, dAug, dSet0, dSAdd, dSNotIn, dIter_, gi_l, gi_t, gi_b, dRng1, dRng2, dName, dGNil, dGCons, dGTup, dAsg, dFor, dWhile, dCall, dCallR, dArgs_, ga_f, ga_t, argsOf, dLc, wipeE, dListRg, dIndex, dSortSet, dSortSc, dEnum, dZip, dIsi, dIsi2, isaT, φI, φB, φC, φNeg, add_i, add_l, add_t, mul_i, mul_l, φIx, sl_l, sl_t, eq_i, eq_s, eq_l, eq_t, eq_b, eq_n, φIsN, isN_n, isN_b, isN_i, isN_s, isN_l, isN_t, φLen, φList, φTuple, φAbs, φInt, φMax, φIsB, its_l, its_t, rd_sh, rd_nw, rd_br, rp_sh, rp_nw, rp_br, rp_bx, rp_raw, rp_sr, rr_sh, rr_nw, rr_br, ra_sh, ra_br, ra_bx, ra_raw, va_sh, va_nt, va_nf, va_raw, hb_n, hb_sh, hb_bx, hb_raw, hb_br, sh_n, sh_c, tr_n, tr_b, tr_i, tr_l, tr_t, ty_n, ty_b, ty_i, ty_s, ty_l, ty_t, if_ff, if_tt, Env.set, List.getElem?_cons_succ, List.getElem?_cons_zero, List.set_cons_succ, List.set_cons_zero, List.reverse_cons, List.reverse_nil, List.nil_append, List.cons_append, Option.bind_some, ite_true, ite_false]
    have hfs : (List.replicate n.toNat [PyData.int 0]).flatten = dI (List.replicate n.toNat 0) := by
      show _ = (List.replicate n.toNat (0 : Int)).map _
      rw [List.map_replicate]
      generalize n.toNat = m
      clear hrow hl0 hc1 hp q
      induction m with
      | zero => rfl
      | succ m ih => rw [List.replicate_succ, List.flatten_cons, ih, List.replicate_succ]; rfl
    rw [hfs, enD_dI]
    refine ⟨rfl, net_loop rfl h1 h2 hrow ht row.zipIdx _ _ _ c2 (fun q hq => ?_) ⟨List.length_replicate, fun z hz => ?_⟩ ?_ fun fs c3 x y h6 h7 => ?_⟩
    · exact List.mem_zipIdx_iff_getElem?.mp hq
    · rw [List.eq_of_mem_replicate hz]; omega
    · rw [List.length_zipIdx, hrow.1]; omega
    · try dsimp only [dVar_, gv_sh, gv_ow, gv_bx, gv_raw, gv_st, dC, dRaw, dOp, dUn, dTest, dTruth, dAnd, dOr, dNot, dYes, dIf, dAndV, dOrV, dNotV, dNotT, dChain, dNil, dCons, dTup, dLst, dats, dCB, dNoP, dPart, dSl, dNext, dBreak, dCont, dNever, dDrop, dRet, dRetN, dIfS, dSetG, dPar, dPar3, dAppend, dAppPop, dSetIx, dExt, dAug, dSet0, dSAdd, dSNotIn, dIter_, gi_l, gi_t, gi_b, dRng1, dRng2, dName, dGNil, dGCons, dGTup, dAsg, dFor, dWhile, dCall, dCallR, dArgs_, ga_f, ga_t, argsOf, dLc, wipeE, dListRg, dIndex, dSortSet, dSortSc, dEnum, dZip, dIsi, dIsi2, isaT, φI, φB, φC, φNeg, add_i, add_l, add_t, mul_i, mul_l, φIx, sl_l, sl_t, eq_i, eq_s, eq_l, eq_t, eq_b, eq_n, φIsN, isN_n, isN_b, isN_i, isN_s, isN_l, isN_t, φLen, φList, φTuple, φAbs, φInt, φMax, φIsB, its_l, its_t, rd_sh, rd_nw, rd_br, rp_sh, rp_nw, rp_br, rp_bx, rp_raw, rp_sr, rr_sh, rr_nw, rr_br, ra_sh, ra_br, ra_bx, ra_raw, va_sh, va_nt, va_nf, va_raw, hb_n, hb_sh, hb_bx, hb_raw, hb_br, sh_n, sh_c, tr_n, tr_b, tr_i, tr_l, tr_t, ty_n, ty_b, ty_i, ty_s, ty_l, ty_t, if_ff, if_tt, Env.set, List.getElem?_cons_succ, List.getElem?_cons_zero, List.set_cons_succ, List.set_cons_zero, List.reverse_cons, List.reverse_nil, List.nil_append, List.cons_append, Option.bind_some, ite_true, ite_false]
      refine q fs c3 h6 ?_
      rw [List.length_zipIdx, hrow.1] at h7
      omega
end Lp

namespace Lp
open PySem PySem.Spec PyProof.Rows L2
/-! ### _law_any_net -/
/-- _law_any_net: _law_box_here, _law_most -/
def b_law_any_net : DTS := (dRet (dCall p_law_net_of (dCons (dVar 0) (dCons (dOp φAdd (dC (.int 1)) (dCall p_law_take (dCons (dVar 0) (dCons (dVar 1) dNil)))) (dCons (dCall p_law_take (dCons (dVar 0) (dCons (dC (.int 6)) dNil))) dNil)))))
abbrev k_law_any_net : Nat := 0
def p_law_any_net : DSp := fun args c Q => ∃ m : Int, args = [.bx, .sh (.int m)] ∧ 1 ≤ m ∧ m ≤ 1000 ∧ c ≤ 700000000 ∧ ∀ ns c', Stt ns → (ns.length : Int) ≤ m → c' ≤ c + 11000 → Q (.sh (.tuple (dI ns))) c'
theorem mon_law_any_net : MonF p_law_any_net := fun args c A B h ⟨n, e, h1, h2, h3, q⟩ => ⟨n, e, h1, h2, h3, fun r c' a b d => h _ _ (q r c' a b d)⟩
theorem NetOk.stt {n : Nat} {ns : List Int} (h : NetOk n ns) (h1 : 1 ≤ n) (h2 : n ≤ 1000) : Stt ns := by
  obtain ⟨rfl, lo⟩ := h
  exact ⟨lo, h2, h1⟩
theorem m_law_any_net : ∀ args c Q, p_law_any_net args c Q → defF k_law_any_net b_law_any_net args c Q := by
  rintro _ c Q ⟨m, rfl, h1, h2, h3, q⟩
  show b_law_any_net _ ⟨[.bx, .sh (.int m)], c⟩
  unfold b_law_any_net
  try dsimp only [dVar_, gv_sh, gv_ow, gv_bx, gv_raw, gv_st, dC, dRaw, dOp, dUn, dTest, dTruth, dAnd, dOr, dNot, dYes, dIf, dAndV, dOrV, dNotV, dNotT, dChain, dNil, dCons, dTup, dLst, dats, dCB, dNoP, dPart, dSl, dNext, dBreak, dCont, dNever, dDrop, dRet, dRetN, dIfS, dSetG, dPar, dPar3, dAppend, dAppPop, dSetIx, dExt, dAug, dSet0, dSAdd, dSNotIn, dIter_, gi_l, gi_t, gi_b, dRng1, dRng2, dName, dGNil, dGCons, dGTup, dAsg, dFor, dWhile, dCall, dCallR, dArgs_, ga_f, ga_t, argsOf, dLc, wipeE, dListRg, dIndex, dSortSet, dSortSc, dEnum, dZip, dIsi, dIsi2, isaT, φI, φB, φC, φNeg, add_i, add_l, add_t, mul_i, mul_l, φIx, sl_l, sl_t, eq_i, eq_s, eq_l, eq_t, eq_b, eq_n, φIsN, isN_n, isN_b, isN_i, isN_s, isN_l, isN_t, φLen, φList, φTuple, φAbs, φInt, φMax, φIsB, its_l, its_t, rd_sh, rd_nw, rd_br, rp_sh, rp_nw, rp_br, rp_bx, rp_raw, rp_sr, rr_sh, rr_nw, rr_br, ra_sh, ra_br, ra_bx, ra_raw, va_sh, va_nt, va_nf, va_raw, hb_n, hb_sh, hb_bx, hb_raw, hb_br, sh_n, sh_c, tr_n, tr_b, tr_i, tr_l, tr_t, ty_n, ty_b, ty_i, ty_s, ty_l, ty_t, if_ff, if_tt, Env.set, List.getElem?_cons_succ, List.getElem?_cons_zero, List.set_cons_succ, List.set_cons_zero, List.reverse_cons, List.reverse_nil, List.nil_append, List.cons_append, Option.bind_some, ite_true, ite_false]
  refine c_take h1 (by omega) (by omega) fun r c1 r0 r1 hc1 => ?_
  try dsimp only [dVar_, gv_sh, gv_ow, gv_bx, gv_raw, gv_st, dC, dRaw, dOp, dUn, dTest, dTruth, dAnd, dOr, dNot, dYes, dIf, dAndV, dOrV, dNotV, dNotT, dChain, dNil, dCons, dTup, dLst, dats, dCB, dNoP, dPart, dSl, dNext, dBreak, dCont, dNever, dDrop, dRet, dRetN, dIfS, dSetG, dPar, dPar3, dAppend, dAppPop, dSetIx, dExt, dAug, dSet0, dSAdd, dSNotIn, dIter_, gi_l, gi_t, gi_b, dRng1, dRng2, dName, dGNil, dGCons, dGTup, dAsg, dFor, dWhile, dCall, dCallR, dArgs_, ga_f, ga_t, argsOf, dLc, wipeE, dListRg, dIndex, dSortSet, dSortSc, dEnum, dZip, dIsi, dIsi2, isaT, φI, φB, φC, φNeg, add_i, add_l, add_t, mul_i, mul_l, φIx, sl_l, sl_t, eq_i, eq_s, eq_l, eq_t, eq_b, eq_n, φIsN, isN_n, isN_b, isN_i, isN_s, isN_l, isN_t, φLen, φList, φTuple, φAbs, φInt, φMax, φIsB, its_l, its_t, rd_sh, rd_nw, rd_br, rp_sh, rp_nw, rp_br, rp_bx, rp_raw, rp_sr, rr_sh, rr_nw, rr_br, ra_sh, ra_br, ra_bx, ra_raw, va_sh, va_nt, va_nf, va_raw, hb_n, hb_sh, hb_bx, hb_raw, hb_br, sh_n, sh_c, tr_n, tr_b, tr_i, tr_l, tr_t, ty_n, ty_b, ty_i, ty_s, ty_l, ty_t, if_ff, if_tt, Env.set, List.getElem?_cons_succ, List.getElem?_cons_zero, List.set_cons_succ, List.set_cons_zero, List.reverse_cons, List.reverse_nil, List.nil_append, List.cons_append, Option.bind_some, ite_true, ite_false]
  refine c_take (by decide) (by decide) (by omega) fun s c2 s0 s1 hc2 => ?_
  try dsimp only [dVar_, gv_sh, gv_ow, gv_bx, gv_raw, gv_st, dC, dRaw, dOp, dUn, dTest, dTruth, dAnd, dOr, dNot, dYes, dIf, dAndV, dOrV, dNotV, dNotT, dChain, dNil, dCons, dTup, dLst, dats, dCB, dNoP, dPart, dSl, dNext, dBreak, dCont, dNever, dDrop, dRet, dRetN, dIfS, dSetG, dPar, dPar3, dAppend, dAppPop, dSetIx, dExt, dAug, dSet0, dSAdd, dSNotIn, dIter_, gi_l, gi_t, gi_b, dRng1, dRng2, dName, dGNil, dGCons, dGTup, dAsg, dFor, dWhile, dCall, dCallR, dArgs_, ga_f, ga_t, argsOf, dLc, wipeE, dListRg, dIndex, dSortSet, dSortSc, dEnum, dZip, dIsi, dIsi2, isaT, φI, φB, φC, φNeg, add_i, add_l, add_t, mul_i, mul_l, φIx, sl_l, sl_t, eq_i, eq_s, eq_l, eq_t, eq_b, eq_n, φIsN, isN_n, isN_b, isN_i, isN_s, isN_l, isN_t, φLen, φList, φTuple, φAbs, φInt, φMax, φIsB, its_l, its_t, rd_sh, rd_nw, rd_br, rp_sh, rp_nw, rp_br, rp_bx, rp_raw, rp_sr, rr_sh, rr_nw, rr_br, ra_sh, ra_br, ra_bx, ra_raw, va_sh, va_nt, va_nf, va_raw, hb_n, hb_sh, hb_bx, hb_raw, hb_br, sh_n, sh_c, tr_n, tr_b, tr_i, tr_l, tr_t, ty_n, ty_b, ty_i, ty_s, ty_l, ty_t, if_ff, if_tt, Env.set, List.getElem?_cons_succ, List.getElem?_cons_zero, List.set_cons_succ, List.set_cons_zero, List.reverse_cons, List.reverse_nil, List.nil_append, List.cons_append, Option.bind_some, ite_true, ite_false]
  refine ⟨1 + r, s, rfl, by omega, by omega, s0, s1, by omega, fun ns c3 hn hc3 => ?_⟩
  try dsimp only [dVar_, gv_sh, gv_ow, gv_bx, gv_raw, gv_st, dC, dRaw, dOp, dUn, dTest, dTruth, dAnd, dOr, dNot, dYes, dIf, dAndV, dOrV, dNotV, dNotT, dChain, dNil, dCons, dTup, dLst, dats, dCB, dNoP, dPart, dSl, dNext, dBreak, dCont, dNever, dDrop, dRet, dRetN, dIfS, dSetG, dPar, dPar3, dAppend, dAppPop, dSetIx, dExt, dAug, dSet0, dSAdd, dSNotIn, dIter_, gi_l, gi_t, gi_b, dRng1, dRng2, dName, dGNil, dGCons, dGTup, dAsg, dFor, dWhile, dCall, dCallR, dArgs_, ga_f, ga_t, argsOf, dLc, wipeE, dListRg, dIndex, dSortSet, dSortSc, dEnum, dZip, dIsi, dIsi2, isaT, φI, φB, φC, φNeg, add_i, add_l, add_t, mul_i, mul_l, φIx, sl_l, sl_t, eq_i, eq_s, eq_l, eq_t, eq_b, eq_n, φIsN, isN_n, isN_b, isN_i, isN_s, isN_l, isN_t, φLen, φList, φTuple, φAbs, φInt, φMax, φIsB, its_l, its_t, rd_sh, rd_nw, rd_br, rp_sh, rp_nw, rp_br, rp_bx, rp_raw, rp_sr, rr_sh, rr_nw, rr_br, ra_sh, ra_br, ra_bx, ra_raw, va_sh, va_nt, va_nf, va_raw, hb_n, hb_sh, hb_bx, hb_raw, hb_br, sh_n, sh_c, tr_n, tr_b, tr_i, tr_l, tr_t, ty_n, ty_b, ty_i, ty_s, ty_l, ty_t, if_ff, if_tt, Env.set, List.getElem?_cons_succ, List.getElem?_cons_zero, List.set_cons_succ, List.set_cons_zero, List.reverse_cons, List.reverse_nil, List.nil_append, List.cons_append, Option.bind_some, ite_true, ite_false]
  have hl := hn.1
  exact q ns c3 (hn.stt (by omega) (by omega)) (by omega) (by omega)
/-! ### _law_walk -/
/-- _law_walk: _law_net, _law_who, _law_found, _law_here -/
def b_law_walk : DTS := (dSeq (dPar 2 true 3 false (dLst dNil) (dOp φIx (dVar 0) (dVar 1)))
  (dSeq (dWhile (dTest (dOp (φIn true) (dVar 3) (dVar 2))) (dSeq (dAppend 2 (dVar 3))
  (dSetG false 3 (dOp φIx (dVar 0) (dVar 3)))))
  (dRet (dVar 2))))
abbrev k_law_walk : Nat := 2
def p_law_walk : DSp := fun args c Q => ∃ (d : PyData) (ns : List Int) (p : Int), args = [.sh d, .sh (.int p)] ∧ PyData.its d = some (dI ns) ∧ Stt ns ∧ Per ns p ∧ Q (.nw (dI (routeF ns (gt ns p)))) c
theorem mon_law_walk : MonF p_law_walk := fun args c A B h ⟨d, ns, p, e, h1, h2, h3, q⟩ => ⟨d, ns, p, e, h1, h2, h3, h _ _ q⟩
theorem walk_loop {d : PyData} {ns : List Int} {x : SV} {Δ : DEnds} {c : Nat} (hd : PyData.its d = some (dI ns)) (hs : Stt ns) : ∀ (k : Nat) (acc : List Int) (z : Int), Per ns z → acc.Nodup → Low ns.length acc → ns.length < k + acc.length →
    (∀ y, Δ.nx ⟨[.sh d, x, .ow (dI (routeG ns k acc z)), y], c⟩) →
    whileN (dTest (dOp (φIn true) (dVar 3) (dVar 2))) (dSeq (dAppend 2 (dVar 3)) (dSetG false 3 (dOp φIx (dVar 0) (dVar 3)))) Δ (k + 1) ⟨[.sh d, x, .ow (dI acc), .sh (.int z)], c⟩
  | 0, acc, z, _, nd, la, hk, _ => by
    have := low_len ns.length acc nd la
    omega
  | k + 1, acc, z, hz, nd, la, hk, q => by
    unfold whileN
    unfold routeG at q
    have hl := low_len ns.length acc nd la
    have := hs.le
    try dsimp only [dVar_, gv_sh, gv_ow, gv_bx, gv_raw, gv_st, dC, dRaw, dOp, dUn, dTest, dTruth, dAnd, dOr, dNot, dYes, dIf, dAndV, dOrV, dNotV, dNotT, dChain, dNil, dCons, dTup, dLst, dats, dCB, dNoP, dPart, dSl, dNext, dBreak, dCont, dNever, dDrop, dRet, dRetN, dIfS, dSetG, dPar, dPar3, dAppend, dAppPop, dSetIx, dExt, dAug, dSet0, dSAdd, dSNotIn, dIter_, gi_l, gi_t, gi_b, dRng1, dRng2, dName, dGNil, dGCons, dGTup, dAsg, dFor, dWhile, dCall, dCallR, dArgs_, ga_f, ga_t, argsOf, dLc, wipeE, dListRg, dIndex, dSortSet, dSortSc, dEnum, dZip, dIsi, dIsi2, isaT, φI, φB, φC, φNeg, add_i, add_l, add_t, mul_i, mul_l, φIx, sl_l, sl_t, eq_i, eq_s, eq_l, eq_t, eq_b, eq_n, φIsN, isN_n, isN_b, isN_i, isN_s, isN_l, isN_t, φLen, φList, φTuple, φAbs, φInt, φMax, φIsB, its_l, its_t, rd_sh, rd_nw, rd_br, rp_sh, rp_nw, rp_br, rp_bx, rp_raw, rp_sr, rr_sh, rr_nw, rr_br, ra_sh, ra_br, ra_bx, ra_raw, va_sh, va_nt, va_nf, va_raw, hb_n, hb_sh, hb_bx, hb_raw, hb_br, sh_n, sh_c, tr_n, tr_b, tr_i, tr_l, tr_t, ty_n, ty_b, ty_i, ty_s, ty_l, ty_t, if_ff, if_tt, Env.set, List.getElem?_cons_succ, List.getElem?_cons_zero, List.set_cons_succ, List.set_cons_zero, List.reverse_cons, List.reverse_nil, List.nil_append, List.cons_append, Option.bind_some, ite_true, ite_false]
    refine φIn_dI (its_l _) ?_
    try dsimp only [dVar_, gv_sh, gv_ow, gv_bx, gv_raw, gv_st, dC, dRaw, dOp, dUn, dTest, dTruth, dAnd, dOr, dNot, dYes, dIf, dAndV, dOrV, dNotV, dNotT, dChain, dNil, dCons, dTup, dLst, dats, dCB, dNoP, dPart, dSl, dNext, dBreak, dCont, dNever, dDrop, dRet, dRetN, dIfS, dSetG, dPar, dPar3, dAppend, dAppPop, dSetIx, dExt, dAug, dSet0, dSAdd, dSNotIn, dIter_, gi_l, gi_t, gi_b, dRng1, dRng2, dName, dGNil, dGCons, dGTup, dAsg, dFor, dWhile, dCall, dCallR, dArgs_, ga_f, ga_t, argsOf, dLc, wipeE, dListRg, dIndex, dSortSet, dSortSc, dEnum, dZip, dIsi, dIsi2, isaT, φI, φB, φC, φNeg, add_i, add_l, add_t, mul_i, mul_l, φIx, sl_l, sl_t, eq_i, eq_s, eq_l, eq_t, eq_b, eq_n, φIsN, isN_n, isN_b, isN_i, isN_s, isN_l, isN_t, φLen, φList, φTuple, φAbs, φInt, φMax, φIsB, its_l, its_t, rd_sh, rd_nw, rd_br, rp_sh, rp_nw, rp_br, rp_bx, rp_raw, rp_sr, rr_sh, rr_nw, rr_br, ra_sh, ra_br, ra_bx, ra_raw, va_sh, va_nt, va_nf, va_raw, hb_n, hb_sh, hb_bx, hb_raw, hb_br, sh_n, sh_c, tr_n, tr_b, tr_i, tr_l, tr_t, ty_n, ty_b, ty_i, ty_s, ty_l, ty_t, if_ff, if_tt, Env.set, List.getElem?_cons_succ, List.getElem?_cons_zero, List.set_cons_succ, List.set_cons_zero, List.reverse_cons, List.reverse_nil, List.nil_append, List.cons_append, Option.bind_some, ite_true, ite_false]
    refine in_2 (fun hm => ?_) fun hm => ?_
    · rw [if_neg hm] at q
      refine sq_ ?_
      try dsimp only [dVar_, gv_sh, gv_ow, gv_bx, gv_raw, gv_st, dC, dRaw, dOp, dUn, dTest, dTruth, dAnd, dOr, dNot, dYes, dIf, dAndV, dOrV, dNotV, dNotT, dChain, dNil, dCons, dTup, dLst, dats, dCB, dNoP, dPart, dSl, dNext, dBreak, dCont, dNever, dDrop, dRet, dRetN, dIfS, dSetG, dPar, dPar3, dAppend, dAppPop, dSetIx, dExt, dAug, dSet0, dSAdd, dSNotIn, dIter_, gi_l, gi_t, gi_b, dRng1, dRng2, dName, dGNil, dGCons, dGTup, dAsg, dFor, dWhile, dCall, dCallR, dArgs_, ga_f, ga_t, argsOf, dLc, wipeE, dListRg, dIndex, dSortSet, dSortSc, dEnum, dZip, dIsi, dIsi2, isaT, φI, φB, φC, φNeg, add_i, add_l, add_t, mul_i, mul_l, φIx, sl_l, sl_t, eq_i, eq_s, eq_l, eq_t, eq_b, eq_n, φIsN, isN_n, isN_b, isN_i, isN_s, isN_l, isN_t, φLen, φList, φTuple, φAbs, φInt, φMax, φIsB, its_l, its_t, rd_sh, rd_nw, rd_br, rp_sh, rp_nw, rp_br, rp_bx, rp_raw, rp_sr, rr_sh, rr_nw, rr_br, ra_sh, ra_br, ra_bx, ra_raw, va_sh, va_nt, va_nf, va_raw, hb_n, hb_sh, hb_bx, hb_raw, hb_br, sh_n, sh_c, tr_n, tr_b, tr_i, tr_l, tr_t, ty_n, ty_b, ty_i, ty_s, ty_l, ty_t, if_ff, if_tt, Env.set, List.getElem?_cons_succ, List.getElem?_cons_zero, List.set_cons_succ, List.set_cons_zero, List.reverse_cons, List.reverse_nil, List.nil_append, List.cons_append, Option.bind_some, ite_true, ite_false]
      refine ⟨show (dI acc).length < 16777216 by rw [dI_len]; omega, ?_⟩
      rw [hd]
      refine ⟨_, atI_dI hz.1 hz.2, ?_⟩
      rw [dI_snoc]
      refine walk_loop hd hs k (acc ++ [z]) (gt ns z) (hs.gt hz) (Nodup.snoc nd hm) ?_ (by rw [List.length_append]; show _ < k + (acc.length + 1); omega) q
      intro y hy
      rcases List.mem_append.mp hy with h | h
      · exact la y h
      · rw [List.mem_singleton.mp h]; exact hz
    · rw [if_pos hm] at q
      exact q _
theorem m_law_walk : ∀ args c Q, p_law_walk args c Q → defF k_law_walk b_law_walk args c Q := by
  rintro _ c Q ⟨d, ns, p, rfl, h1, h2, h3, q⟩
  show b_law_walk _ ⟨[.sh d, .sh (.int p), .un, .un], c⟩
  unfold b_law_walk
  refine sq_ ?_
  try dsimp only [dVar_, gv_sh, gv_ow, gv_bx, gv_raw, gv_st, dC, dRaw, dOp, dUn, dTest, dTruth, dAnd, dOr, dNot, dYes, dIf, dAndV, dOrV, dNotV, dNotT, dChain, dNil, dCons, dTup, dLst, dats, dCB, dNoP, dPart, dSl, dNext, dBreak, dCont, dNever, dDrop, dRet, dRetN, dIfS, dSetG, dPar, dPar3, dAppend, dAppPop, dSetIx, dExt, dAug, dSet0, dSAdd, dSNotIn, dIter_, gi_l, gi_t, gi_b, dRng1, dRng2, dName, dGNil, dGCons, dGTup, dAsg, dFor, dWhile, dCall, dCallR, dArgs_, ga_f, ga_t, argsOf, dLc, wipeE, dListRg, dIndex, dSortSet, dSortSc, dEnum, dZip, dIsi, dIsi2, isaT, φI, φB, φC, φNeg, add_i, add_l, add_t, mul_i, mul_l, φIx, sl_l, sl_t, eq_i, eq_s, eq_l, eq_t, eq_b, eq_n, φIsN, isN_n, isN_b, isN_i, isN_s, isN_l, isN_t, φLen, φList, φTuple, φAbs, φInt, φMax, φIsB, its_l, its_t, rd_sh, rd_nw, rd_br, rp_sh, rp_nw, rp_br, rp_bx, rp_raw, rp_sr, rr_sh, rr_nw, rr_br, ra_sh, ra_br, ra_bx, ra_raw, va_sh, va_nt, va_nf, va_raw, hb_n, hb_sh, hb_bx, hb_raw, hb_br, sh_n, sh_c, tr_n, tr_b, tr_i, tr_l, tr_t, ty_n, ty_b, ty_i, ty_s, ty_l, ty_t, if_ff, if_tt, Env.set, List.getElem?_cons_succ, List.getElem?_cons_zero, List.set_cons_succ, List.set_cons_zero, List.reverse_cons, List.reverse_nil, List.nil_append, List.cons_append, Option.bind_some, ite_true, ite_false]
  rw [h1]
  refine ⟨_, atI_dI h3.1 h3.2, ?_⟩
  refine sq_ ?_
  try dsimp only [dVar_, gv_sh, gv_ow, gv_bx, gv_raw, gv_st, dC, dRaw, dOp, dUn, dTest, dTruth, dAnd, dOr, dNot, dYes, dIf, dAndV, dOrV, dNotV, dNotT, dChain, dNil, dCons, dTup, dLst, dats, dCB, dNoP, dPart, dSl, dNext, dBreak, dCont, dNever, dDrop, dRet, dRetN, dIfS, dSetG, dPar, dPar3, dAppend, dAppPop, dSetIx, dExt, dAug, dSet0, dSAdd, dSNotIn, dIter_, gi_l, gi_t, gi_b, dRng1, dRng2, dName, dGNil, dGCons, dGTup, dAsg, dFor, dWhile, dCall, dCallR, dArgs_, ga_f, ga_t, argsOf, dLc, wipeE, dListRg, dIndex, dSortSet, dSortSc, dEnum, dZip, dIsi, dIsi2, isaT, φI, φB, φC, φNeg, add_i, add_l, add_t, mul_i, mul_l, φIx, sl_l, sl_t, eq_i, eq_s, eq_l, eq_t, eq_b, eq_n, φIsN, isN_n, isN_b, isN_i, isN_s, isN_l, isN_t, φLen, φList, φTuple, φAbs, φInt, φMax, φIsB, its_l, its_t, rd_sh, rd_nw, rd_br, rp_sh, rp_nw, rp_br, rp_bx, rp_raw, rp_sr, rr_sh, rr_nw, rr_br, ra_sh, ra_br, ra_bx, ra_raw, va_sh, va_nt, va_nf, va_raw, hb_n, hb_sh, hb_bx, hb_raw, hb_br, sh_n, sh_c, tr_n, tr_b, tr_i, tr_l, tr_t, ty_n, ty_b, ty_i, ty_s, ty_l, ty_t, if_ff, if_tt, Env.set, List.getElem?_cons_succ, List.getElem?_cons_zero, List.set_cons_succ, List.set_cons_zero, List.reverse_cons, List.reverse_nil, List.nil_append, List.cons_append, Option.bind_some, ite_true, ite_false]
  refine ⟨ns.length + 1 + 1, walk_loop h1 h2 (ns.length + 1) [] (gt ns p) (h2.gt h3) List.nodup_nil (fun _ h => nomatch h) (by show _ < _ + 1 + 0; omega) fun y => ?_⟩
  try dsimp only [dVar_, gv_sh, gv_ow, gv_bx, gv_raw, gv_st, dC, dRaw, dOp, dUn, dTest, dTruth, dAnd, dOr, dNot, dYes, dIf, dAndV, dOrV, dNotV, dNotT, dChain, dNil, dCons, dTup, dLst, dats, dCB, dNoP, dPart, dSl, dNext, dBreak, dCont, dNever, dDrop, dRet, dRetN, dIfS, dSetG, dPar, dPar3, dAppend, dAppPop, dSetIx, dExt, dAug, dSet0, dSAdd, dSNotIn, dIter_, gi_l, gi_t, gi_b, dRng1, dRng2, dName, dGNil, dGCons, dGTup, dAsg, dFor, dWhile, dCall, dCallR, dArgs_, ga_f, ga_t, argsOf, dLc, wipeE, dListRg, dIndex, dSortSet, dSortSc, dEnum, dZip, dIsi, dIsi2, isaT, φI, φB, φC, φNeg, add_i, add_l, add_t, mul_i, mul_l, φIx, sl_l, sl_t, eq_i, eq_s, eq_l, eq_t, eq_b, eq_n, φIsN, isN_n, isN_b, isN_i, isN_s, isN_l, isN_t, φLen, φList, φTuple, φAbs, φInt, φMax, φIsB, its_l, its_t, rd_sh, rd_nw, rd_br, rp_sh, rp_nw, rp_br, rp_bx, rp_raw, rp_sr, rr_sh, rr_nw, rr_br, ra_sh, ra_br, ra_bx, ra_raw, va_sh, va_nt, va_nf, va_raw, hb_n, hb_sh, hb_bx, hb_raw, hb_br, sh_n, sh_c, tr_n, tr_b, tr_i, tr_l, tr_t, ty_n, ty_b, ty_i, ty_s, ty_l, ty_t, if_ff, if_tt, Env.set, List.getElem?_cons_succ, List.getElem?_cons_zero, List.set_cons_succ, List.set_cons_zero, List.reverse_cons, List.reverse_nil, List.nil_append, List.cons_append, Option.bind_some, ite_true, ite_false]
  exact q
/-! ### _law_ends -/
/-- _law_ends: _law_net, _law_found, _law_who, _law_turn, _law_lap, _law_at -/
def b_law_ends : DTS := (dSeq (dSetG true 1 (dLst dNil))
  (dSeq (dFor (dRng1 (dCons (dCB φLen (dCons (dVar 0) dNil)) dNil)) (dName 2) (dSeq (dFor (dRng1 (dCons (dCB φLen (dCons (dVar 0) dNil)) dNil)) (dName 3) (dSetG false 2 (dOp φIx (dVar 0) (dVar 2))))
  (dSeq (dSetG false 4 (dCall p_law_walk (dCons (dVar 0) (dCons (dVar 2) dNil))))
  (dSeq (dSetG false 5 (dIndex (dVar 4) (dCB φMin (dCons (dVar 4) dNil))))
  (dAppend 1 (dCB φTuple (dCons (dOp φAdd (dSl φSl (dVar 4) (dPart (dVar 5)) dNoP) (dSl φSl (dVar 4) dNoP (dPart (dVar 5)))) dNil)))))))
  (dRet (dVar 1))))
abbrev k_law_ends : Nat := 5
def endsF (ns : List Int) : List (List Int) := (List.range ns.length).map fun i : Nat => ringF ns (i : Int)
def p_law_ends : DSp := fun args c Q => ∃ (d : PyData) (ns : List Int), args = [.sh d] ∧ PyData.its d = some (dI ns) ∧ Stt ns ∧ Q (.nw (dT (endsF ns))) c
theorem mon_law_ends : MonF p_law_ends := fun args c A B h ⟨d, ns, e, h1, h2, q⟩ => ⟨d, ns, e, h1, h2, h _ _ q⟩
/-- after as many steps as there are people one is on the ring: the way from there is the ring, turned -/
theorem ends_at {ns : List Int} (hs : Stt ns) {p : Int} (hp : Per ns p) {rs : List Int} (rt : Route ns (gt ns (itr ns p ns.length)) rs) : turnF rs = ringF ns p := by
  obtain ⟨c, cy, er, eroute⟩ := ringF_cyc hs.lo hp.1 hp.2
  have hb := begin_lt hs hp
  have hl := (route_len hs hp).2
  -- the person after so many steps is on the ring
  have e1 : itr ns p ns.length = itr ns (itr ns p (heightF ns p)) (ns.length - heightF ns p) := by
    rw [← itr_add]; congr 1; omega
  have hin : itr ns p ns.length ∈ itrs ns (itr ns p (heightF ns p)) c := by rw [e1]; exact cy.all _
  have hin2 : gt ns (itr ns p ns.length) ∈ itrs ns (itr ns p (heightF ns p)) c := by
    have := cy.all (ns.length - heightF ns p + 1)
    rw [show itr ns (itr ns p (heightF ns p)) (ns.length - heightF ns p + 1) = gt ns (itr ns p ns.length) by rw [e1]; rfl] at this
    exact this
  obtain ⟨cy2, mem2⟩ := cy.at hin2
  have r2 : Route ns (gt ns (itr ns p ns.length)) (itrs ns (gt ns (itr ns p ns.length)) c) := ⟨c, rfl, cy2.2.2, by rw [cy2.2.1]; exact itrs_mem.mpr ⟨0, cy2.1, rfl⟩⟩
  rw [rt.eq r2, er]
  exact Cyc.same cy2 cy (itrs_mem.mpr ⟨0, cy2.1, rfl⟩) hin2
theorem ends_in1 {d : PyData} {ns : List Int} {a e f : SV} {Δ : DEnds} {c : Nat} {p : DTS} (hp : p = dSetG false 2 (dOp φIx (dVar 0) (dVar 2))) (hd : PyData.its d = some (dI ns)) (hs : Stt ns) : ∀ (js : List PyData) (z : Int) (y : SV), Per ns z → (∀ y, Δ.nx ⟨[.sh d, a, .sh (.int (itr ns z js.length)), y, e, f], c⟩) →
    forD (dName 3) p Δ js ⟨[.sh d, a, .sh (.int z), y, e, f], c⟩
  | [], z, y, _, q => q y
  | j :: js, z, y, hz, q => by
    refine for_cons ?_
    subst hp
    try dsimp only [dVar_, gv_sh, gv_ow, gv_bx, gv_raw, gv_st, dC, dRaw, dOp, dUn, dTest, dTruth, dAnd, dOr, dNot, dYes, dIf, dAndV, dOrV, dNotV, dNotT, dChain, dNil, dCons, dTup, dLst, dats, dCB, dNoP, dPart, dSl, dNext, dBreak, dCont, dNever, dDrop, dRet, dRetN, dIfS, dSetG, dPar, dPar3, dAppend, dAppPop, dSetIx, dExt, dAug, dSet0, dSAdd, dSNotIn, dIter_, gi_l, gi_t, gi_b, dRng1, dRng2, dName, dGNil, dGCons, dGTup, dAsg, dFor, dWhile, dCall, dCallR, dArgs_, ga_f, ga_t, argsOf, dLc, wipeE, dListRg, dIndex, dSortSet, dSortSc, dEnum, dZip, dIsi, dIsi2, isaT, φI, φB, φC, φNeg, add_i, add_l, add_t, mul_i, mul_l, φIx, sl_l, sl_t, eq_i, eq_s, eq_l, eq_t, eq_b, eq_n, φIsN, isN_n, isN_b, isN_i, isN_s, isN_l, isN_t, φLen, φList, φTuple, φAbs, φInt, φMax, φIsB, its_l, its_t, rd_sh, rd_nw, rd_br, rp_sh, rp_nw, rp_br, rp_bx, rp_raw, rp_sr, rr_sh, rr_nw, rr_br, ra_sh, ra_br, ra_bx, ra_raw, va_sh, va_nt, va_nf, va_raw, hb_n, hb_sh, hb_bx, hb_raw, hb_br, sh_n, sh_c, tr_n, tr_b, tr_i, tr_l, tr_t, ty_n, ty_b, ty_i, ty_s, ty_l, ty_t, if_ff, if_tt, Env.set, List.getElem?_cons_succ, List.getElem?_cons_zero, List.set_cons_succ, List.set_cons_zero, List.reverse_cons, List.reverse_nil, List.nil_append, List.cons_append, Option.bind_some, ite_true, ite_false]
    rw [hd]
    refine ⟨_, atI_dI hz.1 hz.2, ?_⟩
    refine ends_in1 rfl hd hs js (gt ns z) _ (hs.gt hz) fun y => ?_
    have := q y
    rw [List.length_cons, itr_succ] at this
    exact this
theorem ends_loop {d : PyData} {ns : List Int} {Δ : DEnds} {c : Nat} {p : DTS} (hp : p = (dSeq (dFor (dRng1 (dCons (dCB φLen (dCons (dVar 0) dNil)) dNil)) (dName 3) (dSetG false 2 (dOp φIx (dVar 0) (dVar 2))))
  (dSeq (dSetG false 4 (dCall p_law_walk (dCons (dVar 0) (dCons (dVar 2) dNil))))
  (dSeq (dSetG false 5 (dIndex (dVar 4) (dCB φMin (dCons (dVar 4) dNil))))
  (dAppend 1 (dCB φTuple (dCons (dOp φAdd (dSl φSl (dVar 4) (dPart (dVar 5)) dNoP) (dSl φSl (dVar 4) dNoP (dPart (dVar 5)))) dNil))))))) (hd : PyData.its d = some (dI ns)) (hs : Stt ns) :
    ∀ (js : List Nat) (acc : List (List Int)) (x y e f : SV), (∀ j ∈ js, j < ns.length) → acc.length + js.length ≤ 1000 → (∀ x y e f, Δ.nx ⟨[.sh d, .ow (dT (acc ++ js.map fun i : Nat => ringF ns (i : Int))), x, y, e, f], c⟩) →
    forD (dName 2) p Δ (js.map fun i : Nat => .int (i : Nat)) ⟨[.sh d, .ow (dT acc), x, y, e, f], c⟩
  | [], acc, x, y, e, f, _, _, q => by
    have := q x y e f
    rw [List.map_nil, List.append_nil] at this
    exact this
  | j :: js, acc, x, y, e, f, hj, hl, q => by
    rw [List.length_cons] at hl
    have hp0 : Per ns (j : Int) := per_nat (hj j List.mem_cons_self)
    rw [List.map_cons]
    refine for_cons ?_
    rw [hp]
    refine sq_ ?_
    try dsimp only [dVar_, gv_sh, gv_ow, gv_bx, gv_raw, gv_st, dC, dRaw, dOp, dUn, dTest, dTruth, dAnd, dOr, dNot, dYes, dIf, dAndV, dOrV, dNotV, dNotT, dChain, dNil, dCons, dTup, dLst, dats, dCB, dNoP, dPart, dSl, dNext, dBreak, dCont, dNever, dDrop, dRet, dRetN, dIfS, dSetG, dPar, dPar3, dAppend, dAppPop, dSetIx, dExt, dAug, dSet0, dSAdd, dSNotIn, dIter_, gi_l, gi_t, gi_b, dRng1, dRng2, dName, dGNil, dGCons, dGTup, dAsg, dFor, dWhile, dCall, dCallR, dArgs_, ga_f, ga_t, argsOf, dLc, wipeE, dListRg, dIndex, dSortSet, dSortSc, dEnum, dZip, dIsi, dIsi2, isaT, φI, φB, φC, φNeg, add_i, add_l, add_t, mul_i, mul_l, φIx, sl_l, sl_t, eq_i, eq_s, eq_l, eq_t, eq_b, eq_n, φIsN, isN_n, isN_b, isN_i, isN_s, isN_l, isN_t, φLen, φList, φTuple, φAbs, φInt, φMax, φIsB, its_l, its_t, rd_sh, rd_nw, rd_br, rp_sh, rp_nw, rp_br, rp_bx, rp_raw, rp_sr, rr_sh, rr_nw, rr_br, ra_sh, ra_br, ra_bx, ra_raw, va_sh, va_nt, va_nf, va_raw, hb_n, hb_sh, hb_bx, hb_raw, hb_br, sh_n, sh_c, tr_n, tr_b, tr_i, tr_l, tr_t, ty_n, ty_b, ty_i, ty_s, ty_l, ty_t, if_ff, if_tt, Env.set, List.getElem?_cons_succ, List.getElem?_cons_zero, List.set_cons_succ, List.set_cons_zero, List.reverse_cons, List.reverse_nil, List.nil_append, List.cons_append, Option.bind_some, ite_true, ite_false]
    rw [hd]
    try dsimp only [dVar_, gv_sh, gv_ow, gv_bx, gv_raw, gv_st, dC, dRaw, dOp, dUn, dTest, dTruth, dAnd, dOr, dNot, dYes, dIf, dAndV, dOrV, dNotV, dNotT, dChain, dNil, dCons, dTup, dLst, dats, dCB, dNoP, dPart, dSl, dNext, dBreak, dCont, dNever, dDrop, dRet, dRetN, dIfS, dSetG, dPar, dPar3, dAppend, dAppPop, dSetIx, dExt, dAug, dSet0, dSAdd, dSNotIn, dIter_, gi_l, gi_t, gi_b, dRng1, dRng2, dName, dGNil, dGCons, dGTup, dAsg, dFor, dWhile, dCall, dCallR, dArgs_, ga_f, ga_t, argsOf, dLc, wipeE, dListRg, dIndex, dSortSet, dSortSc, dEnum, dZip, dIsi, dIsi2, isaT, φI, φB, φC, φNeg, add_i, add_l, add_t, mul_i, mul_l, φIx, sl_l, sl_t, eq_i, eq_s, eq_l, eq_t, eq_b, eq_n, φIsN, isN_n, isN_b, isN_i, isN_s, isN_l, isN_t, φLen, φList, φTuple, φAbs, φInt, φMax, φIsB, its_l, its_t, rd_sh, rd_nw, rd_br, rp_sh, rp_nw, rp_br, rp_bx, rp_raw, rp_sr, rr_sh, rr_nw, rr_br, ra_sh, ra_br, ra_bx, ra_raw, va_sh, va_nt, va_nf, va_raw, hb_n, hb_sh, hb_bx, hb_raw, hb_br, sh_n, sh_c, tr_n, tr_b, tr_i, tr_l, tr_t, ty_n, ty_b, ty_i, ty_s, ty_l, ty_t, if_ff, if_tt, Env.set, List.getElem?_cons_succ, List.getElem?_cons_zero, List.set_cons_succ, List.set_cons_zero, List.reverse_cons, List.reverse_nil, List.nil_append, List.cons_append, Option.bind_some, ite_true, ite_false]
    refine ⟨by rw [dI_len]; exact hs.rg, ⟨rfl, ?_⟩⟩
    refine ends_in1 rfl hd hs _ (j : Int) _ hp0 fun y => ?_
    refine sq_ ?_
    try dsimp only [dVar_, gv_sh, gv_ow, gv_bx, gv_raw, gv_st, dC, dRaw, dOp, dUn, dTest, dTruth, dAnd, dOr, dNot, dYes, dIf, dAndV, dOrV, dNotV, dNotT, dChain, dNil, dCons, dTup, dLst, dats, dCB, dNoP, dPart, dSl, dNext, dBreak, dCont, dNever, dDrop, dRet, dRetN, dIfS, dSetG, dPar, dPar3, dAppend, dAppPop, dSetIx, dExt, dAug, dSet0, dSAdd, dSNotIn, dIter_, gi_l, gi_t, gi_b, dRng1, dRng2, dName, dGNil, dGCons, dGTup, dAsg, dFor, dWhile, dCall, dCallR, dArgs_, ga_f, ga_t, argsOf, dLc, wipeE, dListRg, dIndex, dSortSet, dSortSc, dEnum, dZip, dIsi, dIsi2, isaT, φI, φB, φC, φNeg, add_i, add_l, add_t, mul_i, mul_l, φIx, sl_l, sl_t, eq_i, eq_s, eq_l, eq_t, eq_b, eq_n, φIsN, isN_n, isN_b, isN_i, isN_s, isN_l, isN_t, φLen, φList, φTuple, φAbs, φInt, φMax, φIsB, its_l, its_t, rd_sh, rd_nw, rd_br, rp_sh, rp_nw, rp_br, rp_bx, rp_raw, rp_sr, rr_sh, rr_nw, rr_br, ra_sh, ra_br, ra_bx, ra_raw, va_sh, va_nt, va_nf, va_raw, hb_n, hb_sh, hb_bx, hb_raw, hb_br, sh_n, sh_c, tr_n, tr_b, tr_i, tr_l, tr_t, ty_n, ty_b, ty_i, ty_s, ty_l, ty_t, if_ff, if_tt, Env.set, List.getElem?_cons_succ, List.getElem?_cons_zero, List.set_cons_succ, List.set_cons_zero, List.reverse_cons, List.reverse_nil, List.nil_append, List.cons_append, Option.bind_some, ite_true, ite_false]
    have hlen : (rgD 0 ((dI ns).length : Int).toNat).length = ns.length := by unfold rgD; rw [List.length_map, List.length_range, dI_len, Int.toNat_natCast]
    rw [hlen]
    have hq : Per ns (itr ns (j : Int) ns.length) := itr_low hs.lo hp0.1 hp0.2 _
    refine ⟨d, ns, _, rfl, hd, hs, hq, ?_⟩
    have rt := hs.rt (hs.gt hq)
    have et := ends_at hs hp0 rt
    have rl := route_len hs (hs.gt hq)
    have hle := hs.le
    generalize routeF ns (gt ns (itr ns (j : Int) ns.length)) = rs at rt et rl
    have hne : rs ≠ [] := List.length_pos_iff.mp rl.1
    try dsimp only [dVar_, gv_sh, gv_ow, gv_bx, gv_raw, gv_st, dC, dRaw, dOp, dUn, dTest, dTruth, dAnd, dOr, dNot, dYes, dIf, dAndV, dOrV, dNotV, dNotT, dChain, dNil, dCons, dTup, dLst, dats, dCB, dNoP, dPart, dSl, dNext, dBreak, dCont, dNever, dDrop, dRet, dRetN, dIfS, dSetG, dPar, dPar3, dAppend, dAppPop, dSetIx, dExt, dAug, dSet0, dSAdd, dSNotIn, dIter_, gi_l, gi_t, gi_b, dRng1, dRng2, dName, dGNil, dGCons, dGTup, dAsg, dFor, dWhile, dCall, dCallR, dArgs_, ga_f, ga_t, argsOf, dLc, wipeE, dListRg, dIndex, dSortSet, dSortSc, dEnum, dZip, dIsi, dIsi2, isaT, φI, φB, φC, φNeg, add_i, add_l, add_t, mul_i, mul_l, φIx, sl_l, sl_t, eq_i, eq_s, eq_l, eq_t, eq_b, eq_n, φIsN, isN_n, isN_b, isN_i, isN_s, isN_l, isN_t, φLen, φList, φTuple, φAbs, φInt, φMax, φIsB, its_l, its_t, rd_sh, rd_nw, rd_br, rp_sh, rp_nw, rp_br, rp_bx, rp_raw, rp_sr, rr_sh, rr_nw, rr_br, ra_sh, ra_br, ra_bx, ra_raw, va_sh, va_nt, va_nf, va_raw, hb_n, hb_sh, hb_bx, hb_raw, hb_br, sh_n, sh_c, tr_n, tr_b, tr_i, tr_l, tr_t, ty_n, ty_b, ty_i, ty_s, ty_l, ty_t, if_ff, if_tt, Env.set, List.getElem?_cons_succ, List.getElem?_cons_zero, List.set_cons_succ, List.set_cons_zero, List.reverse_cons, List.reverse_nil, List.nil_append, List.cons_append, Option.bind_some, ite_true, ite_false]
    refine sq_ ?_
    try dsimp only [dVar_, gv_sh, gv_ow, gv_bx, gv_raw, gv_st, dC, dRaw, dOp, dUn, dTest, dTruth, dAnd, dOr, dNot, dYes, dIf, dAndV, dOrV, dNotV, dNotT, dChain, dNil, dCons, dTup, dLst, dats, dCB, dNoP, dPart, dSl, dNext, dBreak, dCont, dNever, dDrop, dRet, dRetN, dIfS, dSetG, dPar, dPar3, dAppend, dAppPop, dSetIx, dExt, dAug, dSet0, dSAdd, dSNotIn, dIter_, gi_l, gi_t, gi_b, dRng1, dRng2, dName, dGNil, dGCons, dGTup, dAsg, dFor, dWhile, dCall, dCallR, dArgs_, ga_f, ga_t, argsOf, dLc, wipeE, dListRg, dIndex, dSortSet, dSortSc, dEnum, dZip, dIsi, dIsi2, isaT, φI, φB, φC, φNeg, add_i, add_l, add_t, mul_i, mul_l, φIx, sl_l, sl_t, eq_i, eq_s, eq_l, eq_t, eq_b, eq_n, φIsN, isN_n, isN_b, isN_i, isN_s, isN_l, isN_t, φLen, φList, φTuple, φAbs, φInt, φMax, φIsB, its_l, its_t, rd_sh, rd_nw, rd_br, rp_sh, rp_nw, rp_br, rp_bx, rp_raw, rp_sr, rr_sh, rr_nw, rr_br, ra_sh, ra_br, ra_bx, ra_raw, va_sh, va_nt, va_nf, va_raw, hb_n, hb_sh, hb_bx, hb_raw, hb_br, sh_n, sh_c, tr_n, tr_b, tr_i, tr_l, tr_t, ty_n, ty_b, ty_i, ty_s, ty_l, ty_t, if_ff, if_tt, Env.set, List.getElem?_cons_succ, List.getElem?_cons_zero, List.set_cons_succ, List.set_cons_zero, List.reverse_cons, List.reverse_nil, List.nil_append, List.cons_append, Option.bind_some, ite_true, ite_false]
    refine φMin_dI (its_l _) hne fun m hm => ?_
    try dsimp only [dVar_, gv_sh, gv_ow, gv_bx, gv_raw, gv_st, dC, dRaw, dOp, dUn, dTest, dTruth, dAnd, dOr, dNot, dYes, dIf, dAndV, dOrV, dNotV, dNotT, dChain, dNil, dCons, dTup, dLst, dats, dCB, dNoP, dPart, dSl, dNext, dBreak, dCont, dNever, dDrop, dRet, dRetN, dIfS, dSetG, dPar, dPar3, dAppend, dAppPop, dSetIx, dExt, dAug, dSet0, dSAdd, dSNotIn, dIter_, gi_l, gi_t, gi_b, dRng1, dRng2, dName, dGNil, dGCons, dGTup, dAsg, dFor, dWhile, dCall, dCallR, dArgs_, ga_f, ga_t, argsOf, dLc, wipeE, dListRg, dIndex, dSortSet, dSortSc, dEnum, dZip, dIsi, dIsi2, isaT, φI, φB, φC, φNeg, add_i, add_l, add_t, mul_i, mul_l, φIx, sl_l, sl_t, eq_i, eq_s, eq_l, eq_t, eq_b, eq_n, φIsN, isN_n, isN_b, isN_i, isN_s, isN_l, isN_t, φLen, φList, φTuple, φAbs, φInt, φMax, φIsB, its_l, its_t, rd_sh, rd_nw, rd_br, rp_sh, rp_nw, rp_br, rp_bx, rp_raw, rp_sr, rr_sh, rr_nw, rr_br, ra_sh, ra_br, ra_bx, ra_raw, va_sh, va_nt, va_nf, va_raw, hb_n, hb_sh, hb_bx, hb_raw, hb_br, sh_n, sh_c, tr_n, tr_b, tr_i, tr_l, tr_t, ty_n, ty_b, ty_i, ty_s, ty_l, ty_t, if_ff, if_tt, Env.set, List.getElem?_cons_succ, List.getElem?_cons_zero, List.set_cons_succ, List.set_cons_zero, List.reverse_cons, List.reverse_nil, List.nil_append, List.cons_append, Option.bind_some, ite_true, ite_false]
    rw [intsD_dI]
    refine ⟨hm.1, ?_⟩
    have em : m = minF rs := by
      have := minF_ok hne
      exact Int.le_antisymm (hm.2 _ this.1) (this.2 _ hm.1)
    rw [cutD_from _ _ (Int.natCast_nonneg _), cutD_to _ _ (Int.natCast_nonneg _), Int.toNat_natCast, dI_drop, dI_take, dI_app]
    have er : rs.drop (rs.idxOf m) ++ rs.take (rs.idxOf m) = ringF ns (j : Int) := by rw [← et, em]; rfl
    refine ⟨?_, ?_, ?_⟩
    · show _ ≤ 16777216
      rw [dI_len, dI_len, List.length_drop, List.length_take]; omega
    · show (dT acc).length < 16777216
      rw [List.length_map]; omega
    · rw [er]
      have ed : dT acc ++ [.tuple (dI (ringF ns (j : Int)))] = dT (acc ++ [ringF ns (j : Int)]) := by
        show acc.map _ ++ _ = (acc ++ _).map _
        rw [List.map_append]; rfl
      rw [ed, ← hp]
      refine ends_loop hp hd hs js (acc ++ [ringF ns (j : Int)]) _ _ _ _ (fun i hi => hj i (List.mem_cons_of_mem _ hi)) (by rw [List.length_append, List.length_singleton]; omega) fun x y e f => ?_
      have := q x y e f
      rw [List.map_cons] at this
      rw [List.append_assoc]; exact this
theorem m_law_ends : ∀ args c Q, p_law_ends args c Q → defF k_law_ends b_law_ends args c Q := by
  rintro _ c Q ⟨d, ns, rfl, h1, h2, q⟩
  show b_law_ends _ ⟨[.sh d, .un, .un, .un, .un, .un], c⟩
  unfold b_law_ends
  refine sq_ ?_
  try dsimp only [dVar_, gv_sh, gv_ow, gv_bx, gv_raw, gv_st, dC, dRaw, dOp, dUn, dTest, dTruth, dAnd, dOr, dNot, dYes, dIf, dAndV, dOrV, dNotV, dNotT, dChain, dNil, dCons, dTup, dLst, dats, dCB, dNoP, dPart, dSl, dNext, dBreak, dCont, dNever, dDrop, dRet, dRetN, dIfS, dSetG, dPar, dPar3, dAppend, dAppPop, dSetIx, dExt, dAug, dSet0, dSAdd, dSNotIn, dIter_, gi_l, gi_t, gi_b, dRng1, dRng2, dName, dGNil, dGCons, dGTup, dAsg, dFor, dWhile, dCall, dCallR, dArgs_, ga_f, ga_t, argsOf, dLc, wipeE, dListRg, dIndex, dSortSet, dSortSc, dEnum, dZip, dIsi, dIsi2, isaT, φI, φB, φC, φNeg, add_i, add_l, add_t, mul_i, mul_l, φIx, sl_l, sl_t, eq_i, eq_s, eq_l, eq_t, eq_b, eq_n, φIsN, isN_n, isN_b, isN_i, isN_s, isN_l, isN_t, φLen, φList, φTuple, φAbs, φInt, φMax, φIsB, its_l, its_t, rd_sh, rd_nw, rd_br, rp_sh, rp_nw, rp_br, rp_bx, rp_raw, rp_sr, rr_sh, rr_nw, rr_br, ra_sh, ra_br, ra_bx, ra_raw, va_sh, va_nt, va_nf, va_raw, hb_n, hb_sh, hb_bx, hb_raw, hb_br, sh_n, sh_c, tr_n, tr_b, tr_i, tr_l, tr_t, ty_n, ty_b, ty_i, ty_s, ty_l, ty_t, if_ff, if_tt, Env.set, List.getElem?_cons_succ, List.getElem?_cons_zero, List.set_cons_succ, List.set_cons_zero, List.reverse_cons, List.reverse_nil, List.nil_append, List.cons_append, Option.bind_some, ite_true, ite_false]
  refine sq_ ?_
  try dsimp only [dVar_, gv_sh, gv_ow, gv_bx, gv_raw, gv_st, dC, dRaw, dOp, dUn, dTest, dTruth, dAnd, dOr, dNot, dYes, dIf, dAndV, dOrV, dNotV, dNotT, dChain, dNil, dCons, dTup, dLst, dats, dCB, dNoP, dPart, dSl, dNext, dBreak, dCont, dNever, dDrop, dRet, dRetN, dIfS, dSetG, dPar, dPar3, dAppend, dAppPop, dSetIx, dExt, dAug, dSet0, dSAdd, dSNotIn, dIter_, gi_l, gi_t, gi_b, dRng1, dRng2, dName, dGNil, dGCons, dGTup, dAsg, dFor, dWhile, dCall, dCallR, dArgs_, ga_f, ga_t, argsOf, dLc, wipeE, dListRg, dIndex, dSortSet, dSortSc, dEnum, dZip, dIsi, dIsi2, isaT, φI, φB, φC, φNeg, add_i, add_l, add_t, mul_i, mul_l, φIx, sl_l, sl_t, eq_i, eq_s, eq_l, eq_t, eq_b, eq_n, φIsN, isN_n, isN_b, isN_i, isN_s, isN_l, isN_t, φLen, φList, φTuple, φAbs, φInt, φMax, φIsB, its_l, its_t, rd_sh, rd_nw, rd_br, rp_sh, rp_nw, rp_br, rp_bx, rp_raw, rp_sr, rr_sh, rr_nw, rr_br, ra_sh, ra_br, ra_bx, ra_raw, va_sh, va_nt, va_nf, va_raw, hb_n, hb_sh, hb_bx, hb_raw, hb_br, sh_n, sh_c, tr_n, tr_b, tr_i, tr_l, tr_t, ty_n, ty_b, ty_i, ty_s, ty_l, ty_t, if_ff, if_tt, Env.set, List.getElem?_cons_succ, List.getElem?_cons_zero, List.set_cons_succ, List.set_cons_zero, List.reverse_cons, List.reverse_nil, List.nil_append, List.cons_append, Option.bind_some, ite_true, ite_false]
  rw [h1]
  try dsimp only [dVar_, gv_sh, gv_ow, gv_bx, gv_raw, gv_st, dC, dRaw, dOp, dUn, dTest, dTruth, dAnd, dOr, dNot, dYes, dIf, dAndV, dOrV, dNotV, dNotT, dChain, dNil, dCons, dTup, dLst, dats, dCB, dNoP, dPart, dSl, dNext, dBreak, dCont, dNever, dDrop, dRet, dRetN, dIfS, dSetG, dPar, dPar3, dAppend, dAppPop, dSetIx, dExt, dAug, dSet0, dSAdd, dSNotIn, dIter_, gi_l, gi_t, gi_b, dRng1, dRng2, dName, dGNil, dGCons, dGTup, dAsg, dFor, dWhile, dCall, dCallR, dArgs_, ga_f, ga_t, argsOf, dLc, wipeE, dListRg, dIndex, dSortSet, dSortSc, dEnum, dZip, dIsi, dIsi2, isaT, φI, φB, φC, φNeg, add_i, add_l, add_t, mul_i, mul_l, φIx, sl_l, sl_t, eq_i, eq_s, eq_l, eq_t, eq_b, eq_n, φIsN, isN_n, isN_b, isN_i, isN_s, isN_l, isN_t, φLen, φList, φTuple, φAbs, φInt, φMax, φIsB, its_l, its_t, rd_sh, rd_nw, rd_br, rp_sh, rp_nw, rp_br, rp_bx, rp_raw, rp_sr, rr_sh, rr_nw, rr_br, ra_sh, ra_br, ra_bx, ra_raw, va_sh, va_nt, va_nf, va_raw, hb_n, hb_sh, hb_bx, hb_raw, hb_br, sh_n, sh_c, tr_n, tr_b, tr_i, tr_l, tr_t, ty_n, ty_b, ty_i, ty_s, ty_l, ty_t, if_ff, if_tt, Env.set, List.getElem?_cons_succ, List.getElem?_cons_zero, List.set_cons_succ, List.set_cons_zero, List.reverse_cons, List.reverse_nil, List.nil_append, List.cons_append, Option.bind_some, ite_true, ite_false]
  refine ⟨by rw [dI_len]; exact h2.rg, ⟨rfl, ?_⟩⟩
  rw [dI_len, Int.toNat_natCast, rg0]
  refine ends_loop (acc := []) rfl h1 h2 (List.range ns.length) _ _ _ _ (fun j hj => List.mem_range.mp hj) (by rw [List.length_range]; have := h2.le; show 0 + _ ≤ _; omega) fun x y e f => ?_
  try dsimp only [dVar_, gv_sh, gv_ow, gv_bx, gv_raw, gv_st, dC, dRaw, dOp, dUn, dTest, dTruth, dAnd, dOr, dNot, dYes, dIf, dAndV, dOrV, dNotV, dNotT, dChain, dNil, dCons, dTup, dLst, dats, dCB, dNoP, dPart, dSl, dNext, dBreak, dCont, dNever, dDrop, dRet, dRetN, dIfS, dSetG, dPar, dPar3, dAppend, dAppPop, dSetIx, dExt, dAug, dSet0, dSAdd, dSNotIn, dIter_, gi_l, gi_t, gi_b, dRng1, dRng2, dName, dGNil, dGCons, dGTup, dAsg, dFor, dWhile, dCall, dCallR, dArgs_, ga_f, ga_t, argsOf, dLc, wipeE, dListRg, dIndex, dSortSet, dSortSc, dEnum, dZip, dIsi, dIsi2, isaT, φI, φB, φC, φNeg, add_i, add_l, add_t, mul_i, mul_l, φIx, sl_l, sl_t, eq_i, eq_s, eq_l, eq_t, eq_b, eq_n, φIsN, isN_n, isN_b, isN_i, isN_s, isN_l, isN_t, φLen, φList, φTuple, φAbs, φInt, φMax, φIsB, its_l, its_t, rd_sh, rd_nw, rd_br, rp_sh, rp_nw, rp_br, rp_bx, rp_raw, rp_sr, rr_sh, rr_nw, rr_br, ra_sh, ra_br, ra_bx, ra_raw, va_sh, va_nt, va_nf, va_raw, hb_n, hb_sh, hb_bx, hb_raw, hb_br, sh_n, sh_c, tr_n, tr_b, tr_i, tr_l, tr_t, ty_n, ty_b, ty_i, ty_s, ty_l, ty_t, if_ff, if_tt, Env.set, List.getElem?_cons_succ, List.getElem?_cons_zero, List.set_cons_succ, List.set_cons_zero, List.reverse_cons, List.reverse_nil, List.nil_append, List.cons_append, Option.bind_some, ite_true, ite_false]
  exact q
end Lp

namespace Lp
open PySem PySem.Spec PyProof.Rows L2
/-! ### _law_same -/
/-- _law_same: _law_found, _law_due, _law_mine, _law_its -/
def b_law_same (p_law_same : DSp) : DTS := (dSeq (dIfS (dTruth (dIsi2 "list" "tuple" (dVar 1))) (dSeq (dIfS (dOr (dTest (dOp (φEq true) (dIsi "list" (dVar 0)) (dIsi "list" (dVar 1)))) (dTest (dOp (φEq true) (dIsi "tuple" (dVar 0)) (dIsi "tuple" (dVar 1))))) (dRet (dC (.bool false))) dNext)
  (dRet (dAndV (dOp (φEq false) (dCB φLen (dCons (dVar 0) dNil)) (dCB φLen (dCons (dVar 1) dNil))) (dCB (φAll false) (dCons (dLc (dZip (dCons (dVar 0) (dCons (dVar 1) dNil))) (dGTup 2 (dGCons (dName 2) (dGCons (dName 3) dGNil))) dYes (dCall p_law_same (dCons (dVar 2) (dCons (dVar 3) dNil))) [2, 3]) dNil))))) dNext)
  (dSeq (dIfS (dOr (dTest (dOp (φIsN false) (dVar 1) (dC .none))) (dTruth (dIsi "str" (dVar 1)))) (dRet (dAndV (dOp (φEq false) (dVar 0) (dVar 1)) (dOp (φEq false) (dIsi "str" (dVar 0)) (dIsi "str" (dVar 1))))) dNext)
  (dRet (dAndV (dIsi "int" (dVar 0)) (dAndV (dOp (φEq false) (dIsi "bool" (dVar 0)) (dIsi "bool" (dVar 1))) (dOp (φEq false) (dVar 0) (dVar 1)))))))
abbrev k_law_same : Nat := 2
def dep : Nat → PyData → Bool
  | 0, _ => false
  | k + 1, .list ds => decide (ds.length ≤ 1000000) && ds.all (dep k)
  | k + 1, .tuple ds => decide (ds.length ≤ 1000000) && ds.all (dep k)
  | _ + 1, .dict _ => false
  | _ + 1, _ => true
def p_law_same (k : Nat) : DSp := fun args c Q => ∃ a b : PyData, args = [.sh a, .sh b] ∧ a = b ∧ dep k a = true ∧ Q (.sh (.bool true)) c
theorem mon_law_same (k : Nat) : MonF (p_law_same k) := fun args c A B h ⟨a, b, e, h1, h2, q⟩ => ⟨a, b, e, h1, h2, h _ _ q⟩
theorem zip_self (ds : List PyData) : zipDs ds ds = ds.map fun d => .tuple [d, d] := by
  unfold zipDs
  induction ds with
  | nil => rfl
  | cons x r ih => rw [List.zipWith_cons_cons, ih]; rfl
theorem all_trues (n : Nat) : (dB (List.replicate n true)) = List.replicate n (.bool true) := by
  show (List.replicate n true).map _ = _
  rw [List.map_replicate]
theorem same_seq {k : Nat} {ds : List PyData} {s : List SV} {c : Nat} {Q : R → Env → Prop} (hk : ds.all (dep k) = true) (hl : ds.length ≤ 16777216) (hs : ∃ x y, s = [x, y, .un, .un]) (q : Q (.nw (ds.map fun _ => .bool true)) ⟨s, c⟩) :
    lcD (dGTup 2 (dGCons (dName 2) (dGCons (dName 3) dGNil))) dYes (dCall (p_law_same k) (dCons (dVar 2) (dCons (dVar 3) dNil))) [2, 3] s Q (zipDs ds ds) [] c := by
  obtain ⟨x, y, rfl⟩ := hs
  rw [zip_self]
  refine lc_all (fun d => .tuple [d, d]) (fun _ => .bool true) ds [] (fun d hd K hK => ?_) (by show 0 + _ ≤ _; omega) q
  try dsimp only [dVar_, gv_sh, gv_ow, gv_bx, gv_raw, gv_st, dC, dRaw, dOp, dUn, dTest, dTruth, dAnd, dOr, dNot, dYes, dIf, dAndV, dOrV, dNotV, dNotT, dChain, dNil, dCons, dTup, dLst, dats, dCB, dNoP, dPart, dSl, dNext, dBreak, dCont, dNever, dDrop, dRet, dRetN, dIfS, dSetG, dPar, dPar3, dAppend, dAppPop, dSetIx, dExt, dAug, dSet0, dSAdd, dSNotIn, dIter_, gi_l, gi_t, gi_b, dRng1, dRng2, dName, dGNil, dGCons, dGTup, dAsg, dFor, dWhile, dCall, dCallR, dArgs_, ga_f, ga_t, argsOf, dLc, wipeE, dListRg, dIndex, dSortSet, dSortSc, dEnum, dZip, dIsi, dIsi2, isaT, φI, φB, φC, φNeg, add_i, add_l, add_t, mul_i, mul_l, φIx, sl_l, sl_t, eq_i, eq_s, eq_l, eq_t, eq_b, eq_n, φIsN, isN_n, isN_b, isN_i, isN_s, isN_l, isN_t, φLen, φList, φTuple, φAbs, φInt, φMax, φIsB, its_l, its_t, rd_sh, rd_nw, rd_br, rp_sh, rp_nw, rp_br, rp_bx, rp_raw, rp_sr, rr_sh, rr_nw, rr_br, ra_sh, ra_br, ra_bx, ra_raw, va_sh, va_nt, va_nf, va_raw, hb_n, hb_sh, hb_bx, hb_raw, hb_br, sh_n, sh_c, tr_n, tr_b, tr_i, tr_l, tr_t, ty_n, ty_b, ty_i, ty_s, ty_l, ty_t, if_ff, if_tt, Env.set, List.getElem?_cons_succ, List.getElem?_cons_zero, List.set_cons_succ, List.set_cons_zero, List.reverse_cons, List.reverse_nil, List.nil_append, List.cons_append, Option.bind_some, ite_true, ite_false]
  refine ⟨rfl, ?_⟩
  refine ⟨d, d, rfl, rfl, List.all_eq_true.mp hk d hd, ?_⟩
  try dsimp only [dVar_, gv_sh, gv_ow, gv_bx, gv_raw, gv_st, dC, dRaw, dOp, dUn, dTest, dTruth, dAnd, dOr, dNot, dYes, dIf, dAndV, dOrV, dNotV, dNotT, dChain, dNil, dCons, dTup, dLst, dats, dCB, dNoP, dPart, dSl, dNext, dBreak, dCont, dNever, dDrop, dRet, dRetN, dIfS, dSetG, dPar, dPar3, dAppend, dAppPop, dSetIx, dExt, dAug, dSet0, dSAdd, dSNotIn, dIter_, gi_l, gi_t, gi_b, dRng1, dRng2, dName, dGNil, dGCons, dGTup, dAsg, dFor, dWhile, dCall, dCallR, dArgs_, ga_f, ga_t, argsOf, dLc, wipeE, dListRg, dIndex, dSortSet, dSortSc, dEnum, dZip, dIsi, dIsi2, isaT, φI, φB, φC, φNeg, add_i, add_l, add_t, mul_i, mul_l, φIx, sl_l, sl_t, eq_i, eq_s, eq_l, eq_t, eq_b, eq_n, φIsN, isN_n, isN_b, isN_i, isN_s, isN_l, isN_t, φLen, φList, φTuple, φAbs, φInt, φMax, φIsB, its_l, its_t, rd_sh, rd_nw, rd_br, rp_sh, rp_nw, rp_br, rp_bx, rp_raw, rp_sr, rr_sh, rr_nw, rr_br, ra_sh, ra_br, ra_bx, ra_raw, va_sh, va_nt, va_nf, va_raw, hb_n, hb_sh, hb_bx, hb_raw, hb_br, sh_n, sh_c, tr_n, tr_b, tr_i, tr_l, tr_t, ty_n, ty_b, ty_i, ty_s, ty_l, ty_t, if_ff, if_tt, Env.set, List.getElem?_cons_succ, List.getElem?_cons_zero, List.set_cons_succ, List.set_cons_zero, List.reverse_cons, List.reverse_nil, List.nil_append, List.cons_append, Option.bind_some, ite_true, ite_false]
  exact hK _ _ rfl rfl
theorem eqv_self_b (b : Bool) : PyData.eqv (.bool b) (.bool b) = true := by cases b <;> rfl
theorem dep_list {k : Nat} {ds : List PyData} (h : dep (k + 1) (.list ds) = true) : ds.length ≤ 1000000 ∧ ds.all (dep k) = true := by
  unfold dep at h
  rw [Bool.and_eq_true] at h
  exact ⟨of_decide_eq_true h.1, h.2⟩
theorem dep_tuple {k : Nat} {ds : List PyData} (h : dep (k + 1) (.tuple ds) = true) : ds.length ≤ 1000000 ∧ ds.all (dep k) = true := by
  unfold dep at h
  rw [Bool.and_eq_true] at h
  exact ⟨of_decide_eq_true h.1, h.2⟩
theorem all_true (ds : List PyData) : (dB (ds.map fun _ => true)).length = ds.length ∧ (ds.map fun _ => true).all id = true := by
  refine ⟨by rw [List.length_map, List.length_map], ?_⟩
  rw [List.all_map]
  exact List.all_eq_true.mpr fun _ _ => rfl
theorem m_law_same {k : Nat} : ∀ args c Q, p_law_same (k + 1) args c Q → defF k_law_same (b_law_same (p_law_same k)) args c Q := by
  rintro _ c Q ⟨a, _, rfl, rfl, hk, q⟩
  show b_law_same (p_law_same k) _ ⟨[.sh a, .sh a, .un, .un], c⟩
  unfold b_law_same
  refine sq_ ?_
  cases a with
  | none =>
    try dsimp only [dVar_, gv_sh, gv_ow, gv_bx, gv_raw, gv_st, dC, dRaw, dOp, dUn, dTest, dTruth, dAnd, dOr, dNot, dYes, dIf, dAndV, dOrV, dNotV, dNotT, dChain, dNil, dCons, dTup, dLst, dats, dCB, dNoP, dPart, dSl, dNext, dBreak, dCont, dNever, dDrop, dRet, dRetN, dIfS, dSetG, dPar, dPar3, dAppend, dAppPop, dSetIx, dExt, dAug, dSet0, dSAdd, dSNotIn, dIter_, gi_l, gi_t, gi_b, dRng1, dRng2, dName, dGNil, dGCons, dGTup, dAsg, dFor, dWhile, dCall, dCallR, dArgs_, ga_f, ga_t, argsOf, dLc, wipeE, dListRg, dIndex, dSortSet, dSortSc, dEnum, dZip, dIsi, dIsi2, isaT, φI, φB, φC, φNeg, add_i, add_l, add_t, mul_i, mul_l, φIx, sl_l, sl_t, eq_i, eq_s, eq_l, eq_t, eq_b, eq_n, φIsN, isN_n, isN_b, isN_i, isN_s, isN_l, isN_t, φLen, φList, φTuple, φAbs, φInt, φMax, φIsB, its_l, its_t, rd_sh, rd_nw, rd_br, rp_sh, rp_nw, rp_br, rp_bx, rp_raw, rp_sr, rr_sh, rr_nw, rr_br, ra_sh, ra_br, ra_bx, ra_raw, va_sh, va_nt, va_nf, va_raw, hb_n, hb_sh, hb_bx, hb_raw, hb_br, sh_n, sh_c, tr_n, tr_b, tr_i, tr_l, tr_t, ty_n, ty_b, ty_i, ty_s, ty_l, ty_t, if_ff, if_tt, Env.set, List.getElem?_cons_succ, List.getElem?_cons_zero, List.set_cons_succ, List.set_cons_zero, List.reverse_cons, List.reverse_nil, List.nil_append, List.cons_append, Option.bind_some, ite_true, ite_false]
    refine if_f (by decide +kernel) ?_
    refine sq_ ?_
    try dsimp only [dVar_, gv_sh, gv_ow, gv_bx, gv_raw, gv_st, dC, dRaw, dOp, dUn, dTest, dTruth, dAnd, dOr, dNot, dYes, dIf, dAndV, dOrV, dNotV, dNotT, dChain, dNil, dCons, dTup, dLst, dats, dCB, dNoP, dPart, dSl, dNext, dBreak, dCont, dNever, dDrop, dRet, dRetN, dIfS, dSetG, dPar, dPar3, dAppend, dAppPop, dSetIx, dExt, dAug, dSet0, dSAdd, dSNotIn, dIter_, gi_l, gi_t, gi_b, dRng1, dRng2, dName, dGNil, dGCons, dGTup, dAsg, dFor, dWhile, dCall, dCallR, dArgs_, ga_f, ga_t, argsOf, dLc, wipeE, dListRg, dIndex, dSortSet, dSortSc, dEnum, dZip, dIsi, dIsi2, isaT, φI, φB, φC, φNeg, add_i, add_l, add_t, mul_i, mul_l, φIx, sl_l, sl_t, eq_i, eq_s, eq_l, eq_t, eq_b, eq_n, φIsN, isN_n, isN_b, isN_i, isN_s, isN_l, isN_t, φLen, φList, φTuple, φAbs, φInt, φMax, φIsB, its_l, its_t, rd_sh, rd_nw, rd_br, rp_sh, rp_nw, rp_br, rp_bx, rp_raw, rp_sr, rr_sh, rr_nw, rr_br, ra_sh, ra_br, ra_bx, ra_raw, va_sh, va_nt, va_nf, va_raw, hb_n, hb_sh, hb_bx, hb_raw, hb_br, sh_n, sh_c, tr_n, tr_b, tr_i, tr_l, tr_t, ty_n, ty_b, ty_i, ty_s, ty_l, ty_t, if_ff, if_tt, Env.set, List.getElem?_cons_succ, List.getElem?_cons_zero, List.set_cons_succ, List.set_cons_zero, List.reverse_cons, List.reverse_nil, List.nil_append, List.cons_append, Option.bind_some, ite_true, ite_false]
    refine ⟨⟨rfl, rfl⟩, ?_⟩
    refine if_t (by rfl) ?_
    exact ⟨⟨rfl, rfl⟩, q⟩
  | bool b =>
    try dsimp only [dVar_, gv_sh, gv_ow, gv_bx, gv_raw, gv_st, dC, dRaw, dOp, dUn, dTest, dTruth, dAnd, dOr, dNot, dYes, dIf, dAndV, dOrV, dNotV, dNotT, dChain, dNil, dCons, dTup, dLst, dats, dCB, dNoP, dPart, dSl, dNext, dBreak, dCont, dNever, dDrop, dRet, dRetN, dIfS, dSetG, dPar, dPar3, dAppend, dAppPop, dSetIx, dExt, dAug, dSet0, dSAdd, dSNotIn, dIter_, gi_l, gi_t, gi_b, dRng1, dRng2, dName, dGNil, dGCons, dGTup, dAsg, dFor, dWhile, dCall, dCallR, dArgs_, ga_f, ga_t, argsOf, dLc, wipeE, dListRg, dIndex, dSortSet, dSortSc, dEnum, dZip, dIsi, dIsi2, isaT, φI, φB, φC, φNeg, add_i, add_l, add_t, mul_i, mul_l, φIx, sl_l, sl_t, eq_i, eq_s, eq_l, eq_t, eq_b, eq_n, φIsN, isN_n, isN_b, isN_i, isN_s, isN_l, isN_t, φLen, φList, φTuple, φAbs, φInt, φMax, φIsB, its_l, its_t, rd_sh, rd_nw, rd_br, rp_sh, rp_nw, rp_br, rp_bx, rp_raw, rp_sr, rr_sh, rr_nw, rr_br, ra_sh, ra_br, ra_bx, ra_raw, va_sh, va_nt, va_nf, va_raw, hb_n, hb_sh, hb_bx, hb_raw, hb_br, sh_n, sh_c, tr_n, tr_b, tr_i, tr_l, tr_t, ty_n, ty_b, ty_i, ty_s, ty_l, ty_t, if_ff, if_tt, Env.set, List.getElem?_cons_succ, List.getElem?_cons_zero, List.set_cons_succ, List.set_cons_zero, List.reverse_cons, List.reverse_nil, List.nil_append, List.cons_append, Option.bind_some, ite_true, ite_false]
    refine if_f (by decide +kernel) ?_
    refine sq_ ?_
    try dsimp only [dVar_, gv_sh, gv_ow, gv_bx, gv_raw, gv_st, dC, dRaw, dOp, dUn, dTest, dTruth, dAnd, dOr, dNot, dYes, dIf, dAndV, dOrV, dNotV, dNotT, dChain, dNil, dCons, dTup, dLst, dats, dCB, dNoP, dPart, dSl, dNext, dBreak, dCont, dNever, dDrop, dRet, dRetN, dIfS, dSetG, dPar, dPar3, dAppend, dAppPop, dSetIx, dExt, dAug, dSet0, dSAdd, dSNotIn, dIter_, gi_l, gi_t, gi_b, dRng1, dRng2, dName, dGNil, dGCons, dGTup, dAsg, dFor, dWhile, dCall, dCallR, dArgs_, ga_f, ga_t, argsOf, dLc, wipeE, dListRg, dIndex, dSortSet, dSortSc, dEnum, dZip, dIsi, dIsi2, isaT, φI, φB, φC, φNeg, add_i, add_l, add_t, mul_i, mul_l, φIx, sl_l, sl_t, eq_i, eq_s, eq_l, eq_t, eq_b, eq_n, φIsN, isN_n, isN_b, isN_i, isN_s, isN_l, isN_t, φLen, φList, φTuple, φAbs, φInt, φMax, φIsB, its_l, its_t, rd_sh, rd_nw, rd_br, rp_sh, rp_nw, rp_br, rp_bx, rp_raw, rp_sr, rr_sh, rr_nw, rr_br, ra_sh, ra_br, ra_bx, ra_raw, va_sh, va_nt, va_nf, va_raw, hb_n, hb_sh, hb_bx, hb_raw, hb_br, sh_n, sh_c, tr_n, tr_b, tr_i, tr_l, tr_t, ty_n, ty_b, ty_i, ty_s, ty_l, ty_t, if_ff, if_tt, Env.set, List.getElem?_cons_succ, List.getElem?_cons_zero, List.set_cons_succ, List.set_cons_zero, List.reverse_cons, List.reverse_nil, List.nil_append, List.cons_append, Option.bind_some, ite_true, ite_false]
    refine if_f (by decide +kernel) ?_
    refine if_f (by decide +kernel) ?_
    refine if_t (by decide +kernel) ?_
    refine ⟨⟨rfl, rfl⟩, ?_⟩
    refine if_t (by rfl) ?_
    refine ⟨⟨rfl, rfl⟩, ?_⟩
    rw [eqv_self_b]
    exact q
  | int z =>
    try dsimp only [dVar_, gv_sh, gv_ow, gv_bx, gv_raw, gv_st, dC, dRaw, dOp, dUn, dTest, dTruth, dAnd, dOr, dNot, dYes, dIf, dAndV, dOrV, dNotV, dNotT, dChain, dNil, dCons, dTup, dLst, dats, dCB, dNoP, dPart, dSl, dNext, dBreak, dCont, dNever, dDrop, dRet, dRetN, dIfS, dSetG, dPar, dPar3, dAppend, dAppPop, dSetIx, dExt, dAug, dSet0, dSAdd, dSNotIn, dIter_, gi_l, gi_t, gi_b, dRng1, dRng2, dName, dGNil, dGCons, dGTup, dAsg, dFor, dWhile, dCall, dCallR, dArgs_, ga_f, ga_t, argsOf, dLc, wipeE, dListRg, dIndex, dSortSet, dSortSc, dEnum, dZip, dIsi, dIsi2, isaT, φI, φB, φC, φNeg, add_i, add_l, add_t, mul_i, mul_l, φIx, sl_l, sl_t, eq_i, eq_s, eq_l, eq_t, eq_b, eq_n, φIsN, isN_n, isN_b, isN_i, isN_s, isN_l, isN_t, φLen, φList, φTuple, φAbs, φInt, φMax, φIsB, its_l, its_t, rd_sh, rd_nw, rd_br, rp_sh, rp_nw, rp_br, rp_bx, rp_raw, rp_sr, rr_sh, rr_nw, rr_br, ra_sh, ra_br, ra_bx, ra_raw, va_sh, va_nt, va_nf, va_raw, hb_n, hb_sh, hb_bx, hb_raw, hb_br, sh_n, sh_c, tr_n, tr_b, tr_i, tr_l, tr_t, ty_n, ty_b, ty_i, ty_s, ty_l, ty_t, if_ff, if_tt, Env.set, List.getElem?_cons_succ, List.getElem?_cons_zero, List.set_cons_succ, List.set_cons_zero, List.reverse_cons, List.reverse_nil, List.nil_append, List.cons_append, Option.bind_some, ite_true, ite_false]
    refine if_f (by decide +kernel) ?_
    refine sq_ ?_
    try dsimp only [dVar_, gv_sh, gv_ow, gv_bx, gv_raw, gv_st, dC, dRaw, dOp, dUn, dTest, dTruth, dAnd, dOr, dNot, dYes, dIf, dAndV, dOrV, dNotV, dNotT, dChain, dNil, dCons, dTup, dLst, dats, dCB, dNoP, dPart, dSl, dNext, dBreak, dCont, dNever, dDrop, dRet, dRetN, dIfS, dSetG, dPar, dPar3, dAppend, dAppPop, dSetIx, dExt, dAug, dSet0, dSAdd, dSNotIn, dIter_, gi_l, gi_t, gi_b, dRng1, dRng2, dName, dGNil, dGCons, dGTup, dAsg, dFor, dWhile, dCall, dCallR, dArgs_, ga_f, ga_t, argsOf, dLc, wipeE, dListRg, dIndex, dSortSet, dSortSc, dEnum, dZip, dIsi, dIsi2, isaT, φI, φB, φC, φNeg, add_i, add_l, add_t, mul_i, mul_l, φIx, sl_l, sl_t, eq_i, eq_s, eq_l, eq_t, eq_b, eq_n, φIsN, isN_n, isN_b, isN_i, isN_s, isN_l, isN_t, φLen, φList, φTuple, φAbs, φInt, φMax, φIsB, its_l, its_t, rd_sh, rd_nw, rd_br, rp_sh, rp_nw, rp_br, rp_bx, rp_raw, rp_sr, rr_sh, rr_nw, rr_br, ra_sh, ra_br, ra_bx, ra_raw, va_sh, va_nt, va_nf, va_raw, hb_n, hb_sh, hb_bx, hb_raw, hb_br, sh_n, sh_c, tr_n, tr_b, tr_i, tr_l, tr_t, ty_n, ty_b, ty_i, ty_s, ty_l, ty_t, if_ff, if_tt, Env.set, List.getElem?_cons_succ, List.getElem?_cons_zero, List.set_cons_succ, List.set_cons_zero, List.reverse_cons, List.reverse_nil, List.nil_append, List.cons_append, Option.bind_some, ite_true, ite_false]
    refine if_f (by decide +kernel) ?_
    refine if_f (by decide +kernel) ?_
    refine if_t (by decide +kernel) ?_
    refine ⟨⟨rfl, rfl⟩, ?_⟩
    refine if_t (by rfl) ?_
    rw [decide_eq_true rfl]
    exact q
  | str x =>
    try dsimp only [dVar_, gv_sh, gv_ow, gv_bx, gv_raw, gv_st, dC, dRaw, dOp, dUn, dTest, dTruth, dAnd, dOr, dNot, dYes, dIf, dAndV, dOrV, dNotV, dNotT, dChain, dNil, dCons, dTup, dLst, dats, dCB, dNoP, dPart, dSl, dNext, dBreak, dCont, dNever, dDrop, dRet, dRetN, dIfS, dSetG, dPar, dPar3, dAppend, dAppPop, dSetIx, dExt, dAug, dSet0, dSAdd, dSNotIn, dIter_, gi_l, gi_t, gi_b, dRng1, dRng2, dName, dGNil, dGCons, dGTup, dAsg, dFor, dWhile, dCall, dCallR, dArgs_, ga_f, ga_t, argsOf, dLc, wipeE, dListRg, dIndex, dSortSet, dSortSc, dEnum, dZip, dIsi, dIsi2, isaT, φI, φB, φC, φNeg, add_i, add_l, add_t, mul_i, mul_l, φIx, sl_l, sl_t, eq_i, eq_s, eq_l, eq_t, eq_b, eq_n, φIsN, isN_n, isN_b, isN_i, isN_s, isN_l, isN_t, φLen, φList, φTuple, φAbs, φInt, φMax, φIsB, its_l, its_t, rd_sh, rd_nw, rd_br, rp_sh, rp_nw, rp_br, rp_bx, rp_raw, rp_sr, rr_sh, rr_nw, rr_br, ra_sh, ra_br, ra_bx, ra_raw, va_sh, va_nt, va_nf, va_raw, hb_n, hb_sh, hb_bx, hb_raw, hb_br, sh_n, sh_c, tr_n, tr_b, tr_i, tr_l, tr_t, ty_n, ty_b, ty_i, ty_s, ty_l, ty_t, if_ff, if_tt, Env.set, List.getElem?_cons_succ, List.getElem?_cons_zero, List.set_cons_succ, List.set_cons_zero, List.reverse_cons, List.reverse_nil, List.nil_append, List.cons_append, Option.bind_some, ite_true, ite_false]
    refine if_f (by decide +kernel) ?_
    refine sq_ ?_
    try dsimp only [dVar_, gv_sh, gv_ow, gv_bx, gv_raw, gv_st, dC, dRaw, dOp, dUn, dTest, dTruth, dAnd, dOr, dNot, dYes, dIf, dAndV, dOrV, dNotV, dNotT, dChain, dNil, dCons, dTup, dLst, dats, dCB, dNoP, dPart, dSl, dNext, dBreak, dCont, dNever, dDrop, dRet, dRetN, dIfS, dSetG, dPar, dPar3, dAppend, dAppPop, dSetIx, dExt, dAug, dSet0, dSAdd, dSNotIn, dIter_, gi_l, gi_t, gi_b, dRng1, dRng2, dName, dGNil, dGCons, dGTup, dAsg, dFor, dWhile, dCall, dCallR, dArgs_, ga_f, ga_t, argsOf, dLc, wipeE, dListRg, dIndex, dSortSet, dSortSc, dEnum, dZip, dIsi, dIsi2, isaT, φI, φB, φC, φNeg, add_i, add_l, add_t, mul_i, mul_l, φIx, sl_l, sl_t, eq_i, eq_s, eq_l, eq_t, eq_b, eq_n, φIsN, isN_n, isN_b, isN_i, isN_s, isN_l, isN_t, φLen, φList, φTuple, φAbs, φInt, φMax, φIsB, its_l, its_t, rd_sh, rd_nw, rd_br, rp_sh, rp_nw, rp_br, rp_bx, rp_raw, rp_sr, rr_sh, rr_nw, rr_br, ra_sh, ra_br, ra_bx, ra_raw, va_sh, va_nt, va_nf, va_raw, hb_n, hb_sh, hb_bx, hb_raw, hb_br, sh_n, sh_c, tr_n, tr_b, tr_i, tr_l, tr_t, ty_n, ty_b, ty_i, ty_s, ty_l, ty_t, if_ff, if_tt, Env.set, List.getElem?_cons_succ, List.getElem?_cons_zero, List.set_cons_succ, List.set_cons_zero, List.reverse_cons, List.reverse_nil, List.nil_append, List.cons_append, Option.bind_some, ite_true, ite_false]
    refine if_f (by decide +kernel) ?_
    refine if_t (by decide +kernel) ?_
    refine if_t (decide_eq_true rfl) ?_
    exact ⟨⟨rfl, rfl⟩, q⟩
  | list ds =>
    obtain ⟨h1, h2⟩ := dep_list hk
    try dsimp only [dVar_, gv_sh, gv_ow, gv_bx, gv_raw, gv_st, dC, dRaw, dOp, dUn, dTest, dTruth, dAnd, dOr, dNot, dYes, dIf, dAndV, dOrV, dNotV, dNotT, dChain, dNil, dCons, dTup, dLst, dats, dCB, dNoP, dPart, dSl, dNext, dBreak, dCont, dNever, dDrop, dRet, dRetN, dIfS, dSetG, dPar, dPar3, dAppend, dAppPop, dSetIx, dExt, dAug, dSet0, dSAdd, dSNotIn, dIter_, gi_l, gi_t, gi_b, dRng1, dRng2, dName, dGNil, dGCons, dGTup, dAsg, dFor, dWhile, dCall, dCallR, dArgs_, ga_f, ga_t, argsOf, dLc, wipeE, dListRg, dIndex, dSortSet, dSortSc, dEnum, dZip, dIsi, dIsi2, isaT, φI, φB, φC, φNeg, add_i, add_l, add_t, mul_i, mul_l, φIx, sl_l, sl_t, eq_i, eq_s, eq_l, eq_t, eq_b, eq_n, φIsN, isN_n, isN_b, isN_i, isN_s, isN_l, isN_t, φLen, φList, φTuple, φAbs, φInt, φMax, φIsB, its_l, its_t, rd_sh, rd_nw, rd_br, rp_sh, rp_nw, rp_br, rp_bx, rp_raw, rp_sr, rr_sh, rr_nw, rr_br, ra_sh, ra_br, ra_bx, ra_raw, va_sh, va_nt, va_nf, va_raw, hb_n, hb_sh, hb_bx, hb_raw, hb_br, sh_n, sh_c, tr_n, tr_b, tr_i, tr_l, tr_t, ty_n, ty_b, ty_i, ty_s, ty_l, ty_t, if_ff, if_tt, Env.set, List.getElem?_cons_succ, List.getElem?_cons_zero, List.set_cons_succ, List.set_cons_zero, List.reverse_cons, List.reverse_nil, List.nil_append, List.cons_append, Option.bind_some, ite_true, ite_false]
    refine if_t (by decide +kernel) ?_
    refine sq_ ?_
    try dsimp only [dVar_, gv_sh, gv_ow, gv_bx, gv_raw, gv_st, dC, dRaw, dOp, dUn, dTest, dTruth, dAnd, dOr, dNot, dYes, dIf, dAndV, dOrV, dNotV, dNotT, dChain, dNil, dCons, dTup, dLst, dats, dCB, dNoP, dPart, dSl, dNext, dBreak, dCont, dNever, dDrop, dRet, dRetN, dIfS, dSetG, dPar, dPar3, dAppend, dAppPop, dSetIx, dExt, dAug, dSet0, dSAdd, dSNotIn, dIter_, gi_l, gi_t, gi_b, dRng1, dRng2, dName, dGNil, dGCons, dGTup, dAsg, dFor, dWhile, dCall, dCallR, dArgs_, ga_f, ga_t, argsOf, dLc, wipeE, dListRg, dIndex, dSortSet, dSortSc, dEnum, dZip, dIsi, dIsi2, isaT, φI, φB, φC, φNeg, add_i, add_l, add_t, mul_i, mul_l, φIx, sl_l, sl_t, eq_i, eq_s, eq_l, eq_t, eq_b, eq_n, φIsN, isN_n, isN_b, isN_i, isN_s, isN_l, isN_t, φLen, φList, φTuple, φAbs, φInt, φMax, φIsB, its_l, its_t, rd_sh, rd_nw, rd_br, rp_sh, rp_nw, rp_br, rp_bx, rp_raw, rp_sr, rr_sh, rr_nw, rr_br, ra_sh, ra_br, ra_bx, ra_raw, va_sh, va_nt, va_nf, va_raw, hb_n, hb_sh, hb_bx, hb_raw, hb_br, sh_n, sh_c, tr_n, tr_b, tr_i, tr_l, tr_t, ty_n, ty_b, ty_i, ty_s, ty_l, ty_t, if_ff, if_tt, Env.set, List.getElem?_cons_succ, List.getElem?_cons_zero, List.set_cons_succ, List.set_cons_zero, List.reverse_cons, List.reverse_nil, List.nil_append, List.cons_append, Option.bind_some, ite_true, ite_false]
    refine ⟨⟨rfl, rfl⟩, ?_⟩
    refine if_f (by rfl) ?_
    refine ⟨⟨rfl, rfl⟩, ?_⟩
    refine if_f (by rfl) ?_
    refine if_t (decide_eq_true rfl) ?_
    refine same_seq h2 (by omega) ⟨_, _, rfl⟩ ?_
    try dsimp only [dVar_, gv_sh, gv_ow, gv_bx, gv_raw, gv_st, dC, dRaw, dOp, dUn, dTest, dTruth, dAnd, dOr, dNot, dYes, dIf, dAndV, dOrV, dNotV, dNotT, dChain, dNil, dCons, dTup, dLst, dats, dCB, dNoP, dPart, dSl, dNext, dBreak, dCont, dNever, dDrop, dRet, dRetN, dIfS, dSetG, dPar, dPar3, dAppend, dAppPop, dSetIx, dExt, dAug, dSet0, dSAdd, dSNotIn, dIter_, gi_l, gi_t, gi_b, dRng1, dRng2, dName, dGNil, dGCons, dGTup, dAsg, dFor, dWhile, dCall, dCallR, dArgs_, ga_f, ga_t, argsOf, dLc, wipeE, dListRg, dIndex, dSortSet, dSortSc, dEnum, dZip, dIsi, dIsi2, isaT, φI, φB, φC, φNeg, add_i, add_l, add_t, mul_i, mul_l, φIx, sl_l, sl_t, eq_i, eq_s, eq_l, eq_t, eq_b, eq_n, φIsN, isN_n, isN_b, isN_i, isN_s, isN_l, isN_t, φLen, φList, φTuple, φAbs, φInt, φMax, φIsB, its_l, its_t, rd_sh, rd_nw, rd_br, rp_sh, rp_nw, rp_br, rp_bx, rp_raw, rp_sr, rr_sh, rr_nw, rr_br, ra_sh, ra_br, ra_bx, ra_raw, va_sh, va_nt, va_nf, va_raw, hb_n, hb_sh, hb_bx, hb_raw, hb_br, sh_n, sh_c, tr_n, tr_b, tr_i, tr_l, tr_t, ty_n, ty_b, ty_i, ty_s, ty_l, ty_t, if_ff, if_tt, Env.set, List.getElem?_cons_succ, List.getElem?_cons_zero, List.set_cons_succ, List.set_cons_zero, List.reverse_cons, List.reverse_nil, List.nil_append, List.cons_append, Option.bind_some, ite_true, ite_false]
    rw [dB_map ds fun _ => true]
    refine φAll_dB ?_
    rw [if_neg (by decide), (all_true ds).2]
    exact q
  | tuple ds =>
    obtain ⟨h1, h2⟩ := dep_tuple hk
    try dsimp only [dVar_, gv_sh, gv_ow, gv_bx, gv_raw, gv_st, dC, dRaw, dOp, dUn, dTest, dTruth, dAnd, dOr, dNot, dYes, dIf, dAndV, dOrV, dNotV, dNotT, dChain, dNil, dCons, dTup, dLst, dats, dCB, dNoP, dPart, dSl, dNext, dBreak, dCont, dNever, dDrop, dRet, dRetN, dIfS, dSetG, dPar, dPar3, dAppend, dAppPop, dSetIx, dExt, dAug, dSet0, dSAdd, dSNotIn, dIter_, gi_l, gi_t, gi_b, dRng1, dRng2, dName, dGNil, dGCons, dGTup, dAsg, dFor, dWhile, dCall, dCallR, dArgs_, ga_f, ga_t, argsOf, dLc, wipeE, dListRg, dIndex, dSortSet, dSortSc, dEnum, dZip, dIsi, dIsi2, isaT, φI, φB, φC, φNeg, add_i, add_l, add_t, mul_i, mul_l, φIx, sl_l, sl_t, eq_i, eq_s, eq_l, eq_t, eq_b, eq_n, φIsN, isN_n, isN_b, isN_i, isN_s, isN_l, isN_t, φLen, φList, φTuple, φAbs, φInt, φMax, φIsB, its_l, its_t, rd_sh, rd_nw, rd_br, rp_sh, rp_nw, rp_br, rp_bx, rp_raw, rp_sr, rr_sh, rr_nw, rr_br, ra_sh, ra_br, ra_bx, ra_raw, va_sh, va_nt, va_nf, va_raw, hb_n, hb_sh, hb_bx, hb_raw, hb_br, sh_n, sh_c, tr_n, tr_b, tr_i, tr_l, tr_t, ty_n, ty_b, ty_i, ty_s, ty_l, ty_t, if_ff, if_tt, Env.set, List.getElem?_cons_succ, List.getElem?_cons_zero, List.set_cons_succ, List.set_cons_zero, List.reverse_cons, List.reverse_nil, List.nil_append, List.cons_append, Option.bind_some, ite_true, ite_false]
    refine if_t (by decide +kernel) ?_
    refine sq_ ?_
    try dsimp only [dVar_, gv_sh, gv_ow, gv_bx, gv_raw, gv_st, dC, dRaw, dOp, dUn, dTest, dTruth, dAnd, dOr, dNot, dYes, dIf, dAndV, dOrV, dNotV, dNotT, dChain, dNil, dCons, dTup, dLst, dats, dCB, dNoP, dPart, dSl, dNext, dBreak, dCont, dNever, dDrop, dRet, dRetN, dIfS, dSetG, dPar, dPar3, dAppend, dAppPop, dSetIx, dExt, dAug, dSet0, dSAdd, dSNotIn, dIter_, gi_l, gi_t, gi_b, dRng1, dRng2, dName, dGNil, dGCons, dGTup, dAsg, dFor, dWhile, dCall, dCallR, dArgs_, ga_f, ga_t, argsOf, dLc, wipeE, dListRg, dIndex, dSortSet, dSortSc, dEnum, dZip, dIsi, dIsi2, isaT, φI, φB, φC, φNeg, add_i, add_l, add_t, mul_i, mul_l, φIx, sl_l, sl_t, eq_i, eq_s, eq_l, eq_t, eq_b, eq_n, φIsN, isN_n, isN_b, isN_i, isN_s, isN_l, isN_t, φLen, φList, φTuple, φAbs, φInt, φMax, φIsB, its_l, its_t, rd_sh, rd_nw, rd_br, rp_sh, rp_nw, rp_br, rp_bx, rp_raw, rp_sr, rr_sh, rr_nw, rr_br, ra_sh, ra_br, ra_bx, ra_raw, va_sh, va_nt, va_nf, va_raw, hb_n, hb_sh, hb_bx, hb_raw, hb_br, sh_n, sh_c, tr_n, tr_b, tr_i, tr_l, tr_t, ty_n, ty_b, ty_i, ty_s, ty_l, ty_t, if_ff, if_tt, Env.set, List.getElem?_cons_succ, List.getElem?_cons_zero, List.set_cons_succ, List.set_cons_zero, List.reverse_cons, List.reverse_nil, List.nil_append, List.cons_append, Option.bind_some, ite_true, ite_false]
    refine ⟨⟨rfl, rfl⟩, ?_⟩
    refine if_f (by rfl) ?_
    refine ⟨⟨rfl, rfl⟩, ?_⟩
    refine if_f (by rfl) ?_
    refine if_t (decide_eq_true rfl) ?_
    refine same_seq h2 (by omega) ⟨_, _, rfl⟩ ?_
    try dsimp only [dVar_, gv_sh, gv_ow, gv_bx, gv_raw, gv_st, dC, dRaw, dOp, dUn, dTest, dTruth, dAnd, dOr, dNot, dYes, dIf, dAndV, dOrV, dNotV, dNotT, dChain, dNil, dCons, dTup, dLst, dats, dCB, dNoP, dPart, dSl, dNext, dBreak, dCont, dNever, dDrop, dRet, dRetN, dIfS, dSetG, dPar, dPar3, dAppend, dAppPop, dSetIx, dExt, dAug, dSet0, dSAdd, dSNotIn, dIter_, gi_l, gi_t, gi_b, dRng1, dRng2, dName, dGNil, dGCons, dGTup, dAsg, dFor, dWhile, dCall, dCallR, dArgs_, ga_f, ga_t, argsOf, dLc, wipeE, dListRg, dIndex, dSortSet, dSortSc, dEnum, dZip, dIsi, dIsi2, isaT, φI, φB, φC, φNeg, add_i, add_l, add_t, mul_i, mul_l, φIx, sl_l, sl_t, eq_i, eq_s, eq_l, eq_t, eq_b, eq_n, φIsN, isN_n, isN_b, isN_i, isN_s, isN_l, isN_t, φLen, φList, φTuple, φAbs, φInt, φMax, φIsB, its_l, its_t, rd_sh, rd_nw, rd_br, rp_sh, rp_nw, rp_br, rp_bx, rp_raw, rp_sr, rr_sh, rr_nw, rr_br, ra_sh, ra_br, ra_bx, ra_raw, va_sh, va_nt, va_nf, va_raw, hb_n, hb_sh, hb_bx, hb_raw, hb_br, sh_n, sh_c, tr_n, tr_b, tr_i, tr_l, tr_t, ty_n, ty_b, ty_i, ty_s, ty_l, ty_t, if_ff, if_tt, Env.set, List.getElem?_cons_succ, List.getElem?_cons_zero, List.set_cons_succ, List.set_cons_zero, List.reverse_cons, List.reverse_nil, List.nil_append, List.cons_append, Option.bind_some, ite_true, ite_false]
    rw [dB_map ds fun _ => true]
    refine φAll_dB ?_
    rw [if_neg (by decide), (all_true ds).2]
    exact q
  | dict _ => unfold dep at hk; cases hk
end Lp

namespace Lp
open PySem PySem.Spec PyProof.Rows L2
/-! ### comprehensions that draw -/
inductive All2 {α β : Type} (P : α → β → Prop) : List α → List β → Prop
  | nil : All2 P [] []
  | cons {x : α} {y : β} {xs : List α} {ys : List β} : P x y → All2 P xs ys → All2 P (x :: xs) (y :: ys)
theorem All2.len {α β : Type} {P : α → β → Prop} : ∀ {xs : List α} {ys : List β}, All2 P xs ys → ys.length = xs.length
  | _, _, .nil => rfl
  | _, _, .cons _ r => by rw [List.length_cons, List.length_cons, r.len]
theorem All2.mem {α β : Type} {P : α → β → Prop} : ∀ {xs : List α} {ys : List β}, All2 P xs ys → ∀ y ∈ ys, ∃ x ∈ xs, P x y
  | _, _, .cons a r, y, h => by
    rcases List.mem_cons.mp h with rfl | h
    · exact ⟨_, List.mem_cons_self, a⟩
    · obtain ⟨x, hx, hp⟩ := r.mem y h
      exact ⟨x, List.mem_cons_of_mem _ hx, hp⟩
theorem All2.get {α β : Type} {P : α → β → Prop} : ∀ {xs : List α} {ys : List β}, All2 P xs ys → ∀ {i : Nat} {x : α}, xs[i]? = some x → ∃ y, ys[i]? = some y ∧ P x y
  | _, _, .nil, i, x, h => by simp at h
  | _, _, .cons a r, 0, x, h => by simp at h; subst h; exact ⟨_, rfl, a⟩
  | _, _, .cons a r, i + 1, x, h => by
    obtain ⟨y, h1, h2⟩ := r.get (i := i) (x := x) (by simpa using h)
    exact ⟨y, by simpa using h1, h2⟩
theorem lc_draw {α β : Type} {γ : DTG} {f : DTE} {vs : List Nat} {s : List SV} {Q : R → Env → Prop} {N : Nat} (h : α → PyData) (u : β → PyData) (P : α → β → Prop) : ∀ (xs : List α) (acc : List β) (n : Nat),
    (∀ x ∈ xs, ∀ m, m ≤ n + N * xs.length → ∀ K : R → Env → Prop, (∀ r ε y, r.pub = .sh (u y) → P x y → ε.c ≤ m + N → K r ε) → γ (h x) ⟨wipeE ⟨s, m⟩ vs, m⟩ fun ε1 => f ε1 K) →
    acc.length + xs.length ≤ 16777216 → (∀ ys m, All2 P xs ys → m ≤ n + N * xs.length → Q (.nw ((acc ++ ys).map u)) ⟨s, m⟩) → lcD γ dYes f vs s Q (xs.map h) (acc.map u) n
  | [], acc, n, _, _, q => by
    have := q [] n .nil (Nat.le_add_right _ _)
    rw [List.append_nil] at this
    exact this
  | x :: xs, acc, n, st, le, q => by
    rw [List.length_cons] at le
    rw [List.length_cons, Nat.mul_add, Nat.mul_one] at st q
    rw [List.map_cons]
    refine lc_cons ?_
    refine st x List.mem_cons_self n (Nat.le_add_right _ _) (fun r ε3 => match r.pub with
      | .sh e => (acc.map u).length < sizeLine ∧ lcD γ dYes f vs s Q (xs.map h) (acc.map u ++ [e]) ε3.c
      | _ => False) fun r ε y hr hy hc => ?_
    rw [hr]
    refine ⟨show (acc.map u).length < 16777216 by rw [List.length_map]; omega, ?_⟩
    have e : acc.map u ++ [u y] = (acc ++ [y]).map u := by rw [List.map_append]; rfl
    rw [e]
    refine lc_draw h u P xs (acc ++ [y]) ε.c (fun z hz m hm => st z (List.mem_cons_of_mem _ hz) m (by omega)) (by rw [List.length_append, List.length_singleton]; omega) fun ys m hys hm => ?_
    rw [List.append_assoc]
    exact q (y :: ys) m (.cons hy hys) (by omega)
/-! ### states of rest -/
theorem set_cut {ns : List Int} {w : Nat} (h : w < ns.length) (v : Int) : ns.take w ++ [v] ++ ns.drop (w + 1) = ns.set w v := by
  rw [List.append_assoc, List.set_eq_take_append_cons_drop, if_pos h]; rfl
theorem rest_ring {ms : List Int} (hs : Stt ms) (hr : restB ms = true) {p : Int} (hp : Per ms p) : ringF ms p = [gt ms p] := by
  have hq := hs.gt hp
  have hf : gt ms (gt ms p) = gt ms p := of_decide_eq_true (List.all_eq_true.mp hr (gt ms p) (by
    have := gt_get hp.1 hp.2
    exact List.mem_of_getElem? this))
  have cy : Cyc ms (gt ms p) 1 := ⟨by decide, hf, by
    show [itr ms (gt ms p) 0].Nodup
    simp⟩
  rw [← ringF_step hs.lo hp.1 hp.2, ring_at hs.lo hq.1 hq.2 cy]
  rw [turn_self cy]
  · rfl
  · intro y hy
    rw [show itrs ms (gt ms p) 1 = [gt ms p] from rfl] at hy
    rw [List.mem_singleton.mp hy]; exact Int.le_refl _
theorem prod_ones : ∀ (fs : List Int), (∀ f ∈ fs, f = 1) → ∀ a : Int, fs.foldl (· * ·) a = a
  | [], _, _ => rfl
  | f :: r, h, a => by
    rw [List.foldl_cons, h f List.mem_cons_self, Int.mul_one]
    exact prod_ones r (fun g hg => h g (List.mem_cons_of_mem _ hg)) a
theorem rest_one {ms : List Int} (hs : Stt ms) (hr : restB ms = true) {RS : List (List Int)} (hR : RingsOf ms RS) : prodL (RS.map fun r => ((r.length : Nat) : Int)) = 1 := by
  refine prod_ones _ (fun f hf => ?_) 1
  obtain ⟨r, h1, rfl⟩ := List.mem_map.mp hf
  obtain ⟨j, hj, rfl⟩ := (hR.2.2 r).mp h1
  rw [rest_ring hs hr (per_nat hj)]; rfl
/-- everybody at the least member of their ring -/
def calmF (ns : List Int) : List Int := (List.range ns.length).map fun i : Nat => headF ns (i : Int)
theorem calm_len (ns : List Int) : (calmF ns).length = ns.length := by unfold calmF; rw [List.length_map, List.length_range]
theorem head_per {ns : List Int} (hs : Stt ns) {p : Int} (hp : Per ns p) : Per ns (headF ns p) := by
  obtain ⟨c, h1, h2, h3, h4⟩ := headF_form hs.lo hp.1 hp.2
  exact ⟨h3, h4⟩
theorem calm_stt {ns : List Int} (hs : Stt ns) : Stt (calmF ns) := by
  refine ⟨fun z hz => ?_, by rw [calm_len]; exact hs.le, by rw [calm_len]; exact hs.ge⟩
  rw [calm_len]
  obtain ⟨j, hj, rfl⟩ := List.mem_map.mp hz
  exact head_per hs (per_nat (List.mem_range.mp hj))
theorem calm_gt {ns : List Int} {p : Int} (hp : Per ns p) : gt (calmF ns) p = headF ns p := by
  have h := gt_get (ns := calmF ns) hp.1 (by rw [calm_len]; exact hp.2)
  have hl : p.toNat < ns.length := by have := hp.1; have := hp.2; omega
  unfold calmF at h
  rw [List.getElem?_map, List.getElem?_range hl] at h
  have e : ((p.toNat : Nat) : Int) = p := by have := hp.1; omega
  have := Option.some.inj h
  rw [← show headF ns (p.toNat : Int) = gt (calmF ns) p from this, e]
theorem head_head {ns : List Int} (hs : Stt ns) {p : Int} (hp : Per ns p) : headF ns (headF ns p) = headF ns p := by
  obtain ⟨c, h1, h2, h3, h4⟩ := headF_form hs.lo hp.1 hp.2
  have : ringF ns (headF ns p) = ringF ns p := by
    obtain ⟨m, hm⟩ := ring_itr hs.lo hp.1 hp.2 (show headF ns p ∈ ringF ns p by rw [h1]; exact itrs_mem.mpr ⟨0, h2.1, rfl⟩)
    rw [← hm]; exact ringF_itr hs.lo hp.1 hp.2 m
  unfold headF at this ⊢
  rw [this]
theorem calm_rest {ns : List Int} (hs : Stt ns) : restB (calmF ns) = true := by
  refine List.all_eq_true.mpr fun t ht => ?_
  obtain ⟨j, hj, rfl⟩ := List.mem_map.mp ht
  have hp := per_nat (List.mem_range.mp hj)
  refine decide_eq_true ?_
  rw [calm_gt (head_per hs hp)]
  exact head_head hs hp
end Lp

namespace Lp
open PySem PySem.Spec PyProof.Rows L2
/-! ### height, way -/
/-- height: state, person -/
def b_height : DTS := (dSeq (dDrop (dCall p_check_person (dCons (dVar 0) (dCons (dVar 1) dNil))))
  (dRet (dCall p_ring_begin (dCons (dVar 0) (dCons (dCall p_route_from (dCons (dVar 0) (dCons (dVar 1) dNil))) dNil)))))
abbrev k_height : Nat := 0
def p_height : DSp := fun args c Q => ∃ (d : PyData) (ns : List Int) (p : Int), args = [.sh d, .sh (.int p)] ∧ PyData.its d = some (dI ns) ∧ Stt ns ∧ Per ns p ∧ Q (.sh (.int (heightF ns p : Nat))) c
theorem mon_height : MonF p_height := fun args c A B h ⟨d, ns, p, e, h1, h2, h3, q⟩ => ⟨d, ns, p, e, h1, h2, h3, h _ _ q⟩
theorem m_height : ∀ args c Q, p_height args c Q → defF k_height b_height args c Q := by
  rintro _ c Q ⟨d, ns, p, rfl, h1, h2, h3, q⟩
  show b_height _ ⟨[.sh d, .sh (.int p)], c⟩
  unfold b_height
  refine sq_ ?_
  try dsimp only [dVar_, gv_sh, gv_ow, gv_bx, gv_raw, gv_st, dC, dRaw, dOp, dUn, dTest, dTruth, dAnd, dOr, dNot, dYes, dIf, dAndV, dOrV, dNotV, dNotT, dChain, dNil, dCons, dTup, dLst, dats, dCB, dNoP, dPart, dSl, dNext, dBreak, dCont, dNever, dDrop, dRet, dRetN, dIfS, dSetG, dPar, dPar3, dAppend, dAppPop, dSetIx, dExt, dAug, dSet0, dSAdd, dSNotIn, dIter_, gi_l, gi_t, gi_b, dRng1, dRng2, dName, dGNil, dGCons, dGTup, dAsg, dFor, dWhile, dCall, dCallR, dArgs_, ga_f, ga_t, argsOf, dLc, wipeE, dListRg, dIndex, dSortSet, dSortSc, dEnum, dZip, dIsi, dIsi2, isaT, φI, φB, φC, φNeg, add_i, add_l, add_t, mul_i, mul_l, φIx, sl_l, sl_t, eq_i, eq_s, eq_l, eq_t, eq_b, eq_n, φIsN, isN_n, isN_b, isN_i, isN_s, isN_l, isN_t, φLen, φList, φTuple, φAbs, φInt, φMax, φIsB, its_l, its_t, rd_sh, rd_nw, rd_br, rp_sh, rp_nw, rp_br, rp_bx, rp_raw, rp_sr, rr_sh, rr_nw, rr_br, ra_sh, ra_br, ra_bx, ra_raw, va_sh, va_nt, va_nf, va_raw, hb_n, hb_sh, hb_bx, hb_raw, hb_br, sh_n, sh_c, tr_n, tr_b, tr_i, tr_l, tr_t, ty_n, ty_b, ty_i, ty_s, ty_l, ty_t, if_ff, if_tt, Env.set, List.getElem?_cons_succ, List.getElem?_cons_zero, List.set_cons_succ, List.set_cons_zero, List.reverse_cons, List.reverse_nil, List.nil_append, List.cons_append, Option.bind_some, ite_true, ite_false]
  refine c_check h1 h3 ?_
  try dsimp only [dVar_, gv_sh, gv_ow, gv_bx, gv_raw, gv_st, dC, dRaw, dOp, dUn, dTest, dTruth, dAnd, dOr, dNot, dYes, dIf, dAndV, dOrV, dNotV, dNotT, dChain, dNil, dCons, dTup, dLst, dats, dCB, dNoP, dPart, dSl, dNext, dBreak, dCont, dNever, dDrop, dRet, dRetN, dIfS, dSetG, dPar, dPar3, dAppend, dAppPop, dSetIx, dExt, dAug, dSet0, dSAdd, dSNotIn, dIter_, gi_l, gi_t, gi_b, dRng1, dRng2, dName, dGNil, dGCons, dGTup, dAsg, dFor, dWhile, dCall, dCallR, dArgs_, ga_f, ga_t, argsOf, dLc, wipeE, dListRg, dIndex, dSortSet, dSortSc, dEnum, dZip, dIsi, dIsi2, isaT, φI, φB, φC, φNeg, add_i, add_l, add_t, mul_i, mul_l, φIx, sl_l, sl_t, eq_i, eq_s, eq_l, eq_t, eq_b, eq_n, φIsN, isN_n, isN_b, isN_i, isN_s, isN_l, isN_t, φLen, φList, φTuple, φAbs, φInt, φMax, φIsB, its_l, its_t, rd_sh, rd_nw, rd_br, rp_sh, rp_nw, rp_br, rp_bx, rp_raw, rp_sr, rr_sh, rr_nw, rr_br, ra_sh, ra_br, ra_bx, ra_raw, va_sh, va_nt, va_nf, va_raw, hb_n, hb_sh, hb_bx, hb_raw, hb_br, sh_n, sh_c, tr_n, tr_b, tr_i, tr_l, tr_t, ty_n, ty_b, ty_i, ty_s, ty_l, ty_t, if_ff, if_tt, Env.set, List.getElem?_cons_succ, List.getElem?_cons_zero, List.set_cons_succ, List.set_cons_zero, List.reverse_cons, List.reverse_nil, List.nil_append, List.cons_append, Option.bind_some, ite_true, ite_false]
  refine c_route h1 h2 h3 ?_
  try dsimp only [dVar_, gv_sh, gv_ow, gv_bx, gv_raw, gv_st, dC, dRaw, dOp, dUn, dTest, dTruth, dAnd, dOr, dNot, dYes, dIf, dAndV, dOrV, dNotV, dNotT, dChain, dNil, dCons, dTup, dLst, dats, dCB, dNoP, dPart, dSl, dNext, dBreak, dCont, dNever, dDrop, dRet, dRetN, dIfS, dSetG, dPar, dPar3, dAppend, dAppPop, dSetIx, dExt, dAug, dSet0, dSAdd, dSNotIn, dIter_, gi_l, gi_t, gi_b, dRng1, dRng2, dName, dGNil, dGCons, dGTup, dAsg, dFor, dWhile, dCall, dCallR, dArgs_, ga_f, ga_t, argsOf, dLc, wipeE, dListRg, dIndex, dSortSet, dSortSc, dEnum, dZip, dIsi, dIsi2, isaT, φI, φB, φC, φNeg, add_i, add_l, add_t, mul_i, mul_l, φIx, sl_l, sl_t, eq_i, eq_s, eq_l, eq_t, eq_b, eq_n, φIsN, isN_n, isN_b, isN_i, isN_s, isN_l, isN_t, φLen, φList, φTuple, φAbs, φInt, φMax, φIsB, its_l, its_t, rd_sh, rd_nw, rd_br, rp_sh, rp_nw, rp_br, rp_bx, rp_raw, rp_sr, rr_sh, rr_nw, rr_br, ra_sh, ra_br, ra_bx, ra_raw, va_sh, va_nt, va_nf, va_raw, hb_n, hb_sh, hb_bx, hb_raw, hb_br, sh_n, sh_c, tr_n, tr_b, tr_i, tr_l, tr_t, ty_n, ty_b, ty_i, ty_s, ty_l, ty_t, if_ff, if_tt, Env.set, List.getElem?_cons_succ, List.getElem?_cons_zero, List.set_cons_succ, List.set_cons_zero, List.reverse_cons, List.reverse_nil, List.nil_append, List.cons_append, Option.bind_some, ite_true, ite_false]
  refine ⟨d, _, ns, p, rfl, h1, h2, h3, its_l _, ?_⟩
  try dsimp only [dVar_, gv_sh, gv_ow, gv_bx, gv_raw, gv_st, dC, dRaw, dOp, dUn, dTest, dTruth, dAnd, dOr, dNot, dYes, dIf, dAndV, dOrV, dNotV, dNotT, dChain, dNil, dCons, dTup, dLst, dats, dCB, dNoP, dPart, dSl, dNext, dBreak, dCont, dNever, dDrop, dRet, dRetN, dIfS, dSetG, dPar, dPar3, dAppend, dAppPop, dSetIx, dExt, dAug, dSet0, dSAdd, dSNotIn, dIter_, gi_l, gi_t, gi_b, dRng1, dRng2, dName, dGNil, dGCons, dGTup, dAsg, dFor, dWhile, dCall, dCallR, dArgs_, ga_f, ga_t, argsOf, dLc, wipeE, dListRg, dIndex, dSortSet, dSortSc, dEnum, dZip, dIsi, dIsi2, isaT, φI, φB, φC, φNeg, add_i, add_l, add_t, mul_i, mul_l, φIx, sl_l, sl_t, eq_i, eq_s, eq_l, eq_t, eq_b, eq_n, φIsN, isN_n, isN_b, isN_i, isN_s, isN_l, isN_t, φLen, φList, φTuple, φAbs, φInt, φMax, φIsB, its_l, its_t, rd_sh, rd_nw, rd_br, rp_sh, rp_nw, rp_br, rp_bx, rp_raw, rp_sr, rr_sh, rr_nw, rr_br, ra_sh, ra_br, ra_bx, ra_raw, va_sh, va_nt, va_nf, va_raw, hb_n, hb_sh, hb_bx, hb_raw, hb_br, sh_n, sh_c, tr_n, tr_b, tr_i, tr_l, tr_t, ty_n, ty_b, ty_i, ty_s, ty_l, ty_t, if_ff, if_tt, Env.set, List.getElem?_cons_succ, List.getElem?_cons_zero, List.set_cons_succ, List.set_cons_zero, List.reverse_cons, List.reverse_nil, List.nil_append, List.cons_append, Option.bind_some, ite_true, ite_false]
  exact q
theorem c_height {d : PyData} {ns : List Int} {p : Int} {c : Nat} {Q : R → Nat → Prop} (h1 : PyData.its d = some (dI ns)) (h2 : Stt ns) (hp : Per ns p) (q : Q (.sh (.int (heightF ns p : Nat))) c) : p_height [.sh d, .sh (.int p)] c Q := ⟨d, ns, p, rfl, h1, h2, hp, q⟩
/-- way: state, person -/
def b_way : DTS := (dSeq (dDrop (dCall p_check_person (dCons (dVar 0) (dCons (dVar 1) dNil))))
  (dRet (dCall p_route_from (dCons (dVar 0) (dCons (dOp φIx (dVar 0) (dVar 1)) dNil)))))
abbrev k_way : Nat := 0
def p_way : DSp := fun args c Q => ∃ (d : PyData) (ns : List Int) (p : Int), args = [.sh d, .sh (.int p)] ∧ PyData.its d = some (dI ns) ∧ Stt ns ∧ Per ns p ∧ Q (.nw (dI (routeF ns (gt ns p)))) c
theorem mon_way : MonF p_way := fun args c A B h ⟨d, ns, p, e, h1, h2, h3, q⟩ => ⟨d, ns, p, e, h1, h2, h3, h _ _ q⟩
theorem m_way : ∀ args c Q, p_way args c Q → defF k_way b_way args c Q := by
  rintro _ c Q ⟨d, ns, p, rfl, h1, h2, h3, q⟩
  show b_way _ ⟨[.sh d, .sh (.int p)], c⟩
  unfold b_way
  refine sq_ ?_
  try dsimp only [dVar_, gv_sh, gv_ow, gv_bx, gv_raw, gv_st, dC, dRaw, dOp, dUn, dTest, dTruth, dAnd, dOr, dNot, dYes, dIf, dAndV, dOrV, dNotV, dNotT, dChain, dNil, dCons, dTup, dLst, dats, dCB, dNoP, dPart, dSl, dNext, dBreak, dCont, dNever, dDrop, dRet, dRetN, dIfS, dSetG, dPar, dPar3, dAppend, dAppPop, dSetIx, dExt, dAug, dSet0, dSAdd, dSNotIn, dIter_, gi_l, gi_t, gi_b, dRng1, dRng2, dName, dGNil, dGCons, dGTup, dAsg, dFor, dWhile, dCall, dCallR, dArgs_, ga_f, ga_t, argsOf, dLc, wipeE, dListRg, dIndex, dSortSet, dSortSc, dEnum, dZip, dIsi, dIsi2, isaT, φI, φB, φC, φNeg, add_i, add_l, add_t, mul_i, mul_l, φIx, sl_l, sl_t, eq_i, eq_s, eq_l, eq_t, eq_b, eq_n, φIsN, isN_n, isN_b, isN_i, isN_s, isN_l, isN_t, φLen, φList, φTuple, φAbs, φInt, φMax, φIsB, its_l, its_t, rd_sh, rd_nw, rd_br, rp_sh, rp_nw, rp_br, rp_bx, rp_raw, rp_sr, rr_sh, rr_nw, rr_br, ra_sh, ra_br, ra_bx, ra_raw, va_sh, va_nt, va_nf, va_raw, hb_n, hb_sh, hb_bx, hb_raw, hb_br, sh_n, sh_c, tr_n, tr_b, tr_i, tr_l, tr_t, ty_n, ty_b, ty_i, ty_s, ty_l, ty_t, if_ff, if_tt, Env.set, List.getElem?_cons_succ, List.getElem?_cons_zero, List.set_cons_succ, List.set_cons_zero, List.reverse_cons, List.reverse_nil, List.nil_append, List.cons_append, Option.bind_some, ite_true, ite_false]
  refine c_check h1 h3 ?_
  try dsimp only [dVar_, gv_sh, gv_ow, gv_bx, gv_raw, gv_st, dC, dRaw, dOp, dUn, dTest, dTruth, dAnd, dOr, dNot, dYes, dIf, dAndV, dOrV, dNotV, dNotT, dChain, dNil, dCons, dTup, dLst, dats, dCB, dNoP, dPart, dSl, dNext, dBreak, dCont, dNever, dDrop, dRet, dRetN, dIfS, dSetG, dPar, dPar3, dAppend, dAppPop, dSetIx, dExt, dAug, dSet0, dSAdd, dSNotIn, dIter_, gi_l, gi_t, gi_b, dRng1, dRng2, dName, dGNil, dGCons, dGTup, dAsg, dFor, dWhile, dCall, dCallR, dArgs_, ga_f, ga_t, argsOf, dLc, wipeE, dListRg, dIndex, dSortSet, dSortSc, dEnum, dZip, dIsi, dIsi2, isaT, φI, φB, φC, φNeg, add_i, add_l, add_t, mul_i, mul_l, φIx, sl_l, sl_t, eq_i, eq_s, eq_l, eq_t, eq_b, eq_n, φIsN, isN_n, isN_b, isN_i, isN_s, isN_l, isN_t, φLen, φList, φTuple, φAbs, φInt, φMax, φIsB, its_l, its_t, rd_sh, rd_nw, rd_br, rp_sh, rp_nw, rp_br, rp_bx, rp_raw, rp_sr, rr_sh, rr_nw, rr_br, ra_sh, ra_br, ra_bx, ra_raw, va_sh, va_nt, va_nf, va_raw, hb_n, hb_sh, hb_bx, hb_raw, hb_br, sh_n, sh_c, tr_n, tr_b, tr_i, tr_l, tr_t, ty_n, ty_b, ty_i, ty_s, ty_l, ty_t, if_ff, if_tt, Env.set, List.getElem?_cons_succ, List.getElem?_cons_zero, List.set_cons_succ, List.set_cons_zero, List.reverse_cons, List.reverse_nil, List.nil_append, List.cons_append, Option.bind_some, ite_true, ite_false]
  rw [h1]
  refine ⟨_, atI_dI h3.1 h3.2, ?_⟩
  try dsimp only [dVar_, gv_sh, gv_ow, gv_bx, gv_raw, gv_st, dC, dRaw, dOp, dUn, dTest, dTruth, dAnd, dOr, dNot, dYes, dIf, dAndV, dOrV, dNotV, dNotT, dChain, dNil, dCons, dTup, dLst, dats, dCB, dNoP, dPart, dSl, dNext, dBreak, dCont, dNever, dDrop, dRet, dRetN, dIfS, dSetG, dPar, dPar3, dAppend, dAppPop, dSetIx, dExt, dAug, dSet0, dSAdd, dSNotIn, dIter_, gi_l, gi_t, gi_b, dRng1, dRng2, dName, dGNil, dGCons, dGTup, dAsg, dFor, dWhile, dCall, dCallR, dArgs_, ga_f, ga_t, argsOf, dLc, wipeE, dListRg, dIndex, dSortSet, dSortSc, dEnum, dZip, dIsi, dIsi2, isaT, φI, φB, φC, φNeg, add_i, add_l, add_t, mul_i, mul_l, φIx, sl_l, sl_t, eq_i, eq_s, eq_l, eq_t, eq_b, eq_n, φIsN, isN_n, isN_b, isN_i, isN_s, isN_l, isN_t, φLen, φList, φTuple, φAbs, φInt, φMax, φIsB, its_l, its_t, rd_sh, rd_nw, rd_br, rp_sh, rp_nw, rp_br, rp_bx, rp_raw, rp_sr, rr_sh, rr_nw, rr_br, ra_sh, ra_br, ra_bx, ra_raw, va_sh, va_nt, va_nf, va_raw, hb_n, hb_sh, hb_bx, hb_raw, hb_br, sh_n, sh_c, tr_n, tr_b, tr_i, tr_l, tr_t, ty_n, ty_b, ty_i, ty_s, ty_l, ty_t, if_ff, if_tt, Env.set, List.getElem?_cons_succ, List.getElem?_cons_zero, List.set_cons_succ, List.set_cons_zero, List.reverse_cons, List.reverse_nil, List.nil_append, List.cons_append, Option.bind_some, ite_true, ite_false]
  refine c_route h1 h2 (h2.gt h3) ?_
  try dsimp only [dVar_, gv_sh, gv_ow, gv_bx, gv_raw, gv_st, dC, dRaw, dOp, dUn, dTest, dTruth, dAnd, dOr, dNot, dYes, dIf, dAndV, dOrV, dNotV, dNotT, dChain, dNil, dCons, dTup, dLst, dats, dCB, dNoP, dPart, dSl, dNext, dBreak, dCont, dNever, dDrop, dRet, dRetN, dIfS, dSetG, dPar, dPar3, dAppend, dAppPop, dSetIx, dExt, dAug, dSet0, dSAdd, dSNotIn, dIter_, gi_l, gi_t, gi_b, dRng1, dRng2, dName, dGNil, dGCons, dGTup, dAsg, dFor, dWhile, dCall, dCallR, dArgs_, ga_f, ga_t, argsOf, dLc, wipeE, dListRg, dIndex, dSortSet, dSortSc, dEnum, dZip, dIsi, dIsi2, isaT, φI, φB, φC, φNeg, add_i, add_l, add_t, mul_i, mul_l, φIx, sl_l, sl_t, eq_i, eq_s, eq_l, eq_t, eq_b, eq_n, φIsN, isN_n, isN_b, isN_i, isN_s, isN_l, isN_t, φLen, φList, φTuple, φAbs, φInt, φMax, φIsB, its_l, its_t, rd_sh, rd_nw, rd_br, rp_sh, rp_nw, rp_br, rp_bx, rp_raw, rp_sr, rr_sh, rr_nw, rr_br, ra_sh, ra_br, ra_bx, ra_raw, va_sh, va_nt, va_nf, va_raw, hb_n, hb_sh, hb_bx, hb_raw, hb_br, sh_n, sh_c, tr_n, tr_b, tr_i, tr_l, tr_t, ty_n, ty_b, ty_i, ty_s, ty_l, ty_t, if_ff, if_tt, Env.set, List.getElem?_cons_succ, List.getElem?_cons_zero, List.set_cons_succ, List.set_cons_zero, List.reverse_cons, List.reverse_nil, List.nil_append, List.cons_append, Option.bind_some, ite_true, ite_false]
  exact q
theorem c_way {d : PyData} {ns : List Int} {p : Int} {c : Nat} {Q : R → Nat → Prop} (h1 : PyData.its d = some (dI ns)) (h2 : Stt ns) (hp : Per ns p) (q : Q (.nw (dI (routeF ns (gt ns p)))) c) : p_way [.sh d, .sh (.int p)] c Q := ⟨d, ns, p, rfl, h1, h2, hp, q⟩
/-! ### _law_strewn -/
/-- _law_strewn: _law_box_here, _law_some, _law_left, _law_found -/
def b_law_strewn_2 : DTS := (dSeq (dPar 2 true 3 true (dCB φList (dCons (dVar 1) dNil)) (dLst dNil))
  (dSeq (dWhile (dTest (dOp (φEq true) (dVar 2) (dLst dNil))) (dAppPop 3 2 (dCall p_law_take (dCons (dVar 0) (dCons (dCB φLen (dCons (dVar 2) dNil)) dNil)))))
  (dRet (dVar 3))))
abbrev k_law_strewn_2 : Nat := 2
def p_law_strewn_2 : DSp := fun args c Q => ∃ (d : PyData) (ms : List Int), args = [.bx, .sh d] ∧ PyData.its d = some (dI ms) ∧ ms.length ≤ 100000 ∧ c + 3 * ms.length ≤ 900000000 ∧ ∀ es c', es.Perm ms → c' ≤ c + 3 * ms.length → Q (.nw (dI es)) c'
theorem mon_law_strewn_2 : MonF p_law_strewn_2 := fun args c A B h ⟨s, ds, e, h1, h2, h3, q⟩ => ⟨s, ds, e, h1, h2, h3, fun r c' a b => h _ _ (q r c' a b)⟩
theorem ne_nil_eqv {ms : List Int} : PyData.eqv (.list (dI ms)) (.list []) = decide (ms = []) := eqvL ms []
theorem perm_popI {ds es fs : List Int} {i : Nat} (hi : i < ds.length) (hp : (es ++ ds).Perm fs) : ((es ++ [ds[i]]) ++ ds.eraseIdx i).Perm fs := by
  refine List.Perm.trans ?_ hp
  rw [List.append_assoc]
  exact List.Perm.append_left es (erase_perm ds i hi)
theorem strewn2_loop {x : SV} {Δ : DEnds} {fs : List Int} (hfs : fs.length ≤ 100000) :
    ∀ (k : Nat) (ds es : List Int) (c : Nat), ds.length = k → (es ++ ds).Perm fs → c + 3 * ds.length ≤ 900000000 → (∀ es c', es.Perm fs → c' ≤ c + 3 * ds.length → Δ.nx ⟨[.bx, x, .ow [], .ow (dI es)], c'⟩) →
      whileN (dTest (dOp (φEq true) (dVar 2) (dLst dNil))) (dAppPop 3 2 (dCall p_law_take (dCons (dVar 0) (dCons (dCB φLen (dCons (dVar 2) dNil)) dNil)))) Δ (k + 1) ⟨[.bx, x, .ow (dI ds), .ow (dI es)], c⟩
  | k, ds, es, c, hl, hp, hc, q => by
    have s1 : SeqAt.shaped (.list (dI ds)) = true := shL ds
    have s0 : SeqAt.shaped (.list []) = true := shL []
    unfold whileN
    try dsimp only [dVar_, gv_sh, gv_ow, gv_bx, gv_raw, gv_st, dC, dRaw, dOp, dUn, dTest, dTruth, dAnd, dOr, dNot, dYes, dIf, dAndV, dOrV, dNotV, dNotT, dChain, dNil, dCons, dTup, dLst, dats, dCB, dNoP, dPart, dSl, dNext, dBreak, dCont, dNever, dDrop, dRet, dRetN, dIfS, dSetG, dPar, dPar3, dAppend, dAppPop, dSetIx, dExt, dAug, dSet0, dSAdd, dSNotIn, dIter_, gi_l, gi_t, gi_b, dRng1, dRng2, dName, dGNil, dGCons, dGTup, dAsg, dFor, dWhile, dCall, dCallR, dArgs_, ga_f, ga_t, argsOf, dLc, wipeE, dListRg, dIndex, dSortSet, dSortSc, dEnum, dZip, dIsi, dIsi2, isaT, φI, φB, φC, φNeg, add_i, add_l, add_t, mul_i, mul_l, φIx, sl_l, sl_t, eq_i, eq_s, eq_l, eq_t, eq_b, eq_n, φIsN, isN_n, isN_b, isN_i, isN_s, isN_l, isN_t, φLen, φList, φTuple, φAbs, φInt, φMax, φIsB, its_l, its_t, rd_sh, rd_nw, rd_br, rp_sh, rp_nw, rp_br, rp_bx, rp_raw, rp_sr, rr_sh, rr_nw, rr_br, ra_sh, ra_br, ra_bx, ra_raw, va_sh, va_nt, va_nf, va_raw, hb_n, hb_sh, hb_bx, hb_raw, hb_br, sh_n, sh_c, tr_n, tr_b, tr_i, tr_l, tr_t, ty_n, ty_b, ty_i, ty_s, ty_l, ty_t, if_ff, if_tt, Env.set, List.getElem?_cons_succ, List.getElem?_cons_zero, List.set_cons_succ, List.set_cons_zero, List.reverse_cons, List.reverse_nil, List.nil_append, List.cons_append, Option.bind_some, ite_true, ite_false]
    refine ⟨⟨s1, s0⟩, ?_⟩
    rw [ne_nil_eqv]
    refine in_2 (fun hne => ?_) fun hnil => ?_
    · have hlen : (es ++ ds).length = fs.length := hp.length_eq
      rw [List.length_append] at hlen
      have hpos : 0 < ds.length := List.length_pos_iff.mpr hne
      cases k with
      | zero => omega
      | succ k =>
        rw [dI_len]
        refine c_take (by omega) (by omega) (by omega) fun r c' r0 r1 hc' => ?_
        try dsimp only [dVar_, gv_sh, gv_ow, gv_bx, gv_raw, gv_st, dC, dRaw, dOp, dUn, dTest, dTruth, dAnd, dOr, dNot, dYes, dIf, dAndV, dOrV, dNotV, dNotT, dChain, dNil, dCons, dTup, dLst, dats, dCB, dNoP, dPart, dSl, dNext, dBreak, dCont, dNever, dDrop, dRet, dRetN, dIfS, dSetG, dPar, dPar3, dAppend, dAppPop, dSetIx, dExt, dAug, dSet0, dSAdd, dSNotIn, dIter_, gi_l, gi_t, gi_b, dRng1, dRng2, dName, dGNil, dGCons, dGTup, dAsg, dFor, dWhile, dCall, dCallR, dArgs_, ga_f, ga_t, argsOf, dLc, wipeE, dListRg, dIndex, dSortSet, dSortSc, dEnum, dZip, dIsi, dIsi2, isaT, φI, φB, φC, φNeg, add_i, add_l, add_t, mul_i, mul_l, φIx, sl_l, sl_t, eq_i, eq_s, eq_l, eq_t, eq_b, eq_n, φIsN, isN_n, isN_b, isN_i, isN_s, isN_l, isN_t, φLen, φList, φTuple, φAbs, φInt, φMax, φIsB, its_l, its_t, rd_sh, rd_nw, rd_br, rp_sh, rp_nw, rp_br, rp_bx, rp_raw, rp_sr, rr_sh, rr_nw, rr_br, ra_sh, ra_br, ra_bx, ra_raw, va_sh, va_nt, va_nf, va_raw, hb_n, hb_sh, hb_bx, hb_raw, hb_br, sh_n, sh_c, tr_n, tr_b, tr_i, tr_l, tr_t, ty_n, ty_b, ty_i, ty_s, ty_l, ty_t, if_ff, if_tt, Env.set, List.getElem?_cons_succ, List.getElem?_cons_zero, List.set_cons_succ, List.set_cons_zero, List.reverse_cons, List.reverse_nil, List.nil_append, List.cons_append, Option.bind_some, ite_true, ite_false]
        have hr : r.toNat < ds.length := by omega
        have h4 : (ds.eraseIdx r.toNat).length = ds.length - 1 := List.length_eraseIdx_of_lt hr
        refine ⟨r0, by rw [dI_len]; exact r1, by rw [dI_len]; omega, show (dI es).length < 16777216 by rw [dI_len]; omega, .int ds[r.toNat], dI_get (List.getElem?_eq_getElem hr), ?_⟩
        rw [dI_erase, dI_snoc]
        exact strewn2_loop hfs k (ds.eraseIdx r.toNat) (es ++ [ds[r.toNat]]) c' (by omega) (perm_popI hr hp) (by omega) fun es c2 h1 h2 => q es c2 h1 (by omega)
    · subst hnil
      rw [List.append_nil] at hp
      exact q es c hp (by omega)
theorem m_law_strewn_2 : ∀ args c Q, p_law_strewn_2 args c Q → defF k_law_strewn_2 b_law_strewn_2 args c Q := by
  rintro _ c Q ⟨d, ms, rfl, h1, h2, h3, q⟩
  show b_law_strewn_2 _ ⟨[.bx, .sh d, .un, .un], c⟩
  unfold b_law_strewn_2
  refine sq_ ?_
  try dsimp only [dVar_, gv_sh, gv_ow, gv_bx, gv_raw, gv_st, dC, dRaw, dOp, dUn, dTest, dTruth, dAnd, dOr, dNot, dYes, dIf, dAndV, dOrV, dNotV, dNotT, dChain, dNil, dCons, dTup, dLst, dats, dCB, dNoP, dPart, dSl, dNext, dBreak, dCont, dNever, dDrop, dRet, dRetN, dIfS, dSetG, dPar, dPar3, dAppend, dAppPop, dSetIx, dExt, dAug, dSet0, dSAdd, dSNotIn, dIter_, gi_l, gi_t, gi_b, dRng1, dRng2, dName, dGNil, dGCons, dGTup, dAsg, dFor, dWhile, dCall, dCallR, dArgs_, ga_f, ga_t, argsOf, dLc, wipeE, dListRg, dIndex, dSortSet, dSortSc, dEnum, dZip, dIsi, dIsi2, isaT, φI, φB, φC, φNeg, add_i, add_l, add_t, mul_i, mul_l, φIx, sl_l, sl_t, eq_i, eq_s, eq_l, eq_t, eq_b, eq_n, φIsN, isN_n, isN_b, isN_i, isN_s, isN_l, isN_t, φLen, φList, φTuple, φAbs, φInt, φMax, φIsB, its_l, its_t, rd_sh, rd_nw, rd_br, rp_sh, rp_nw, rp_br, rp_bx, rp_raw, rp_sr, rr_sh, rr_nw, rr_br, ra_sh, ra_br, ra_bx, ra_raw, va_sh, va_nt, va_nf, va_raw, hb_n, hb_sh, hb_bx, hb_raw, hb_br, sh_n, sh_c, tr_n, tr_b, tr_i, tr_l, tr_t, ty_n, ty_b, ty_i, ty_s, ty_l, ty_t, if_ff, if_tt, Env.set, List.getElem?_cons_succ, List.getElem?_cons_zero, List.set_cons_succ, List.set_cons_zero, List.reverse_cons, List.reverse_nil, List.nil_append, List.cons_append, Option.bind_some, ite_true, ite_false]
  rw [h1]
  try dsimp only [dVar_, gv_sh, gv_ow, gv_bx, gv_raw, gv_st, dC, dRaw, dOp, dUn, dTest, dTruth, dAnd, dOr, dNot, dYes, dIf, dAndV, dOrV, dNotV, dNotT, dChain, dNil, dCons, dTup, dLst, dats, dCB, dNoP, dPart, dSl, dNext, dBreak, dCont, dNever, dDrop, dRet, dRetN, dIfS, dSetG, dPar, dPar3, dAppend, dAppPop, dSetIx, dExt, dAug, dSet0, dSAdd, dSNotIn, dIter_, gi_l, gi_t, gi_b, dRng1, dRng2, dName, dGNil, dGCons, dGTup, dAsg, dFor, dWhile, dCall, dCallR, dArgs_, ga_f, ga_t, argsOf, dLc, wipeE, dListRg, dIndex, dSortSet, dSortSc, dEnum, dZip, dIsi, dIsi2, isaT, φI, φB, φC, φNeg, add_i, add_l, add_t, mul_i, mul_l, φIx, sl_l, sl_t, eq_i, eq_s, eq_l, eq_t, eq_b, eq_n, φIsN, isN_n, isN_b, isN_i, isN_s, isN_l, isN_t, φLen, φList, φTuple, φAbs, φInt, φMax, φIsB, its_l, its_t, rd_sh, rd_nw, rd_br, rp_sh, rp_nw, rp_br, rp_bx, rp_raw, rp_sr, rr_sh, rr_nw, rr_br, ra_sh, ra_br, ra_bx, ra_raw, va_sh, va_nt, va_nf, va_raw, hb_n, hb_sh, hb_bx, hb_raw, hb_br, sh_n, sh_c, tr_n, tr_b, tr_i, tr_l, tr_t, ty_n, ty_b, ty_i, ty_s, ty_l, ty_t, if_ff, if_tt, Env.set, List.getElem?_cons_succ, List.getElem?_cons_zero, List.set_cons_succ, List.set_cons_zero, List.reverse_cons, List.reverse_nil, List.nil_append, List.cons_append, Option.bind_some, ite_true, ite_false]
  refine sq_ ?_
  try dsimp only [dVar_, gv_sh, gv_ow, gv_bx, gv_raw, gv_st, dC, dRaw, dOp, dUn, dTest, dTruth, dAnd, dOr, dNot, dYes, dIf, dAndV, dOrV, dNotV, dNotT, dChain, dNil, dCons, dTup, dLst, dats, dCB, dNoP, dPart, dSl, dNext, dBreak, dCont, dNever, dDrop, dRet, dRetN, dIfS, dSetG, dPar, dPar3, dAppend, dAppPop, dSetIx, dExt, dAug, dSet0, dSAdd, dSNotIn, dIter_, gi_l, gi_t, gi_b, dRng1, dRng2, dName, dGNil, dGCons, dGTup, dAsg, dFor, dWhile, dCall, dCallR, dArgs_, ga_f, ga_t, argsOf, dLc, wipeE, dListRg, dIndex, dSortSet, dSortSc, dEnum, dZip, dIsi, dIsi2, isaT, φI, φB, φC, φNeg, add_i, add_l, add_t, mul_i, mul_l, φIx, sl_l, sl_t, eq_i, eq_s, eq_l, eq_t, eq_b, eq_n, φIsN, isN_n, isN_b, isN_i, isN_s, isN_l, isN_t, φLen, φList, φTuple, φAbs, φInt, φMax, φIsB, its_l, its_t, rd_sh, rd_nw, rd_br, rp_sh, rp_nw, rp_br, rp_bx, rp_raw, rp_sr, rr_sh, rr_nw, rr_br, ra_sh, ra_br, ra_bx, ra_raw, va_sh, va_nt, va_nf, va_raw, hb_n, hb_sh, hb_bx, hb_raw, hb_br, sh_n, sh_c, tr_n, tr_b, tr_i, tr_l, tr_t, ty_n, ty_b, ty_i, ty_s, ty_l, ty_t, if_ff, if_tt, Env.set, List.getElem?_cons_succ, List.getElem?_cons_zero, List.set_cons_succ, List.set_cons_zero, List.reverse_cons, List.reverse_nil, List.nil_append, List.cons_append, Option.bind_some, ite_true, ite_false]
  refine ⟨ms.length + 1, strewn2_loop (es := []) h2 ms.length ms c rfl (List.Perm.refl _) h3 fun es c' hp hc => ?_⟩
  try dsimp only [dVar_, gv_sh, gv_ow, gv_bx, gv_raw, gv_st, dC, dRaw, dOp, dUn, dTest, dTruth, dAnd, dOr, dNot, dYes, dIf, dAndV, dOrV, dNotV, dNotT, dChain, dNil, dCons, dTup, dLst, dats, dCB, dNoP, dPart, dSl, dNext, dBreak, dCont, dNever, dDrop, dRet, dRetN, dIfS, dSetG, dPar, dPar3, dAppend, dAppPop, dSetIx, dExt, dAug, dSet0, dSAdd, dSNotIn, dIter_, gi_l, gi_t, gi_b, dRng1, dRng2, dName, dGNil, dGCons, dGTup, dAsg, dFor, dWhile, dCall, dCallR, dArgs_, ga_f, ga_t, argsOf, dLc, wipeE, dListRg, dIndex, dSortSet, dSortSc, dEnum, dZip, dIsi, dIsi2, isaT, φI, φB, φC, φNeg, add_i, add_l, add_t, mul_i, mul_l, φIx, sl_l, sl_t, eq_i, eq_s, eq_l, eq_t, eq_b, eq_n, φIsN, isN_n, isN_b, isN_i, isN_s, isN_l, isN_t, φLen, φList, φTuple, φAbs, φInt, φMax, φIsB, its_l, its_t, rd_sh, rd_nw, rd_br, rp_sh, rp_nw, rp_br, rp_bx, rp_raw, rp_sr, rr_sh, rr_nw, rr_br, ra_sh, ra_br, ra_bx, ra_raw, va_sh, va_nt, va_nf, va_raw, hb_n, hb_sh, hb_bx, hb_raw, hb_br, sh_n, sh_c, tr_n, tr_b, tr_i, tr_l, tr_t, ty_n, ty_b, ty_i, ty_s, ty_l, ty_t, if_ff, if_tt, Env.set, List.getElem?_cons_succ, List.getElem?_cons_zero, List.set_cons_succ, List.set_cons_zero, List.reverse_cons, List.reverse_nil, List.nil_append, List.cons_append, Option.bind_some, ite_true, ite_false]
  exact q es c' hp hc
/-! ### _law_part -/
/-- _law_part: _law_box_here, _law_size, _law_sort, _law_ringed, _law_found, _law_who -/
def b_law_part : DTS := (dSeq (dSetG false 2 (dCall p_law_take (dCons (dVar 0) (dCons (dC (.int 5)) dNil))))
  (dSeq (dPar 3 false 4 true (dOp φIx (dLst (dCons (dC (.int 0)) (dCons (dC (.int 1)) (dCons (dVar 1) (dCons (dOp φAdd (dC (.int 1)) (dCall p_law_take (dCons (dVar 0) (dCons (dVar 1) dNil)))) (dCons (dC (.int 1)) dNil)))))) (dVar 2)) (dLst dNil))
  (dSeq (dFor (dRng1 (dCons (dVar 1) dNil)) (dName 5) (dIfS (dTest (dOp (φEq false) (dVar 2) (dC (.int 0)))) (dAppend 4 (dCall p_law_take (dCons (dVar 0) (dCons (dVar 1) dNil)))) (dIfS (dTest (dOp (φB fun i j => decide (i < j)) (dVar 5) (dVar 3))) (dAppend 4 (dOp (φC (fun _ j => 0 < j) fun i j => i % j) (dOp φAdd (dVar 5) (dC (.int 1))) (dVar 3))) (dAppend 4 (dIf (dTest (dOp (φEq false) (dVar 2) (dC (.int 4)))) (dOp (φI fun i j => i - j) (dVar 5) (dC (.int 1))) (dCall p_law_take (dCons (dVar 0) (dCons (dVar 5) dNil))))))))
  (dRet (dVar 4)))))
abbrev k_law_part : Nat := 4
def p_law_part : DSp := fun args c Q => ∃ n : Int, args = [.bx, .sh (.int n)] ∧ 1 ≤ n ∧ n ≤ 1000 ∧ c ≤ 800000000 ∧ ∀ fs c', NetOk n.toNat fs → c' ≤ c + 3 * n.toNat + 6 → Q (.nw (dI fs)) c'
theorem mon_law_part : MonF p_law_part := fun args c A B h ⟨n, e, h1, h2, h3, q⟩ => ⟨n, e, h1, h2, h3, fun r c' a b => h _ _ (q r c' a b)⟩
theorem part_loop {n s t : Int} {Δ : DEnds} {p : DTS} (hp : p = (dIfS (dTest (dOp (φEq false) (dVar 2) (dC (.int 0)))) (dAppend 4 (dCall p_law_take (dCons (dVar 0) (dCons (dVar 1) dNil)))) (dIfS (dTest (dOp (φB fun i j => decide (i < j)) (dVar 5) (dVar 3))) (dAppend 4 (dOp (φC (fun _ j => 0 < j) fun i j => i % j) (dOp φAdd (dVar 5) (dC (.int 1))) (dVar 3))) (dAppend 4 (dIf (dTest (dOp (φEq false) (dVar 2) (dC (.int 4)))) (dOp (φI fun i j => i - j) (dVar 5) (dC (.int 1))) (dCall p_law_take (dCons (dVar 0) (dCons (dVar 5) dNil))))))))
    (n1 : 1 ≤ n) (n2 : n ≤ 1000) (ht : s = 0 ∨ (1 ≤ t ∧ t ≤ n)) :
    ∀ (js : List Nat) (fs : List Int) (y : SV) (c : Nat), (∀ j ∈ js, (j : Int) < n) → Low n.toNat fs → fs.length + js.length ≤ 1000 → c + 3 * js.length ≤ 900000000 →
      (∀ gs c' y, Low n.toNat gs → gs.length = fs.length + js.length → c' ≤ c + 3 * js.length → Δ.nx ⟨[.bx, .sh (.int n), .sh (.int s), .sh (.int t), .ow (dI gs), y], c'⟩) →
      forD (dName 5) p Δ (js.map fun i : Nat => .int (i : Nat)) ⟨[.bx, .sh (.int n), .sh (.int s), .sh (.int t), .ow (dI fs), y], c⟩
  | [], fs, y, c, _, lo, _, _, q => q fs c y lo rfl (by omega)
  | j :: js, fs, y, c, hj, lo, hl, hc, q => by
    rw [List.length_cons] at hl hc
    have hj0 := hj j List.mem_cons_self
    have step : ∀ (v : Int) (c' : Nat), 0 ≤ v → v < n → c' ≤ c + 3 → (dI fs).length < sizeLine ∧ forD (dName 5) p Δ (js.map fun i : Nat => .int (i : Nat)) ⟨[.bx, .sh (.int n), .sh (.int s), .sh (.int t), .ow (dI fs ++ [.int v]), .sh (.int (j : Nat))], c'⟩ := by
      intro v c' v0 v1 hc'
      refine ⟨show (dI fs).length < 16777216 by rw [dI_len]; omega, ?_⟩
      rw [dI_snoc]
      refine part_loop hp n1 n2 ht js (fs ++ [v]) _ c' (fun i hi => hj i (List.mem_cons_of_mem _ hi)) ?_ (by rw [List.length_append, List.length_singleton]; omega) (by omega) fun gs c2 y h1 h2 h3 => q gs c2 y h1 (by rw [List.length_append, List.length_singleton] at h2; rw [List.length_cons]; omega) (by rw [List.length_cons]; omega)
      intro z hz
      rcases List.mem_append.mp hz with h | h
      · exact lo z h
      · rw [List.mem_singleton.mp h]; omega
    rw [List.map_cons]
    refine for_cons ?_
    rw [hp]
    rw [hp] at step
    try dsimp only [dVar_, gv_sh, gv_ow, gv_bx, gv_raw, gv_st, dC, dRaw, dOp, dUn, dTest, dTruth, dAnd, dOr, dNot, dYes, dIf, dAndV, dOrV, dNotV, dNotT, dChain, dNil, dCons, dTup, dLst, dats, dCB, dNoP, dPart, dSl, dNext, dBreak, dCont, dNever, dDrop, dRet, dRetN, dIfS, dSetG, dPar, dPar3, dAppend, dAppPop, dSetIx, dExt, dAug, dSet0, dSAdd, dSNotIn, dIter_, gi_l, gi_t, gi_b, dRng1, dRng2, dName, dGNil, dGCons, dGTup, dAsg, dFor, dWhile, dCall, dCallR, dArgs_, ga_f, ga_t, argsOf, dLc, wipeE, dListRg, dIndex, dSortSet, dSortSc, dEnum, dZip, dIsi, dIsi2, isaT, φI, φB, φC, φNeg, add_i, add_l, add_t, mul_i, mul_l, φIx, sl_l, sl_t, eq_i, eq_s, eq_l, eq_t, eq_b, eq_n, φIsN, isN_n, isN_b, isN_i, isN_s, isN_l, isN_t, φLen, φList, φTuple, φAbs, φInt, φMax, φIsB, its_l, its_t, rd_sh, rd_nw, rd_br, rp_sh, rp_nw, rp_br, rp_bx, rp_raw, rp_sr, rr_sh, rr_nw, rr_br, ra_sh, ra_br, ra_bx, ra_raw, va_sh, va_nt, va_nf, va_raw, hb_n, hb_sh, hb_bx, hb_raw, hb_br, sh_n, sh_c, tr_n, tr_b, tr_i, tr_l, tr_t, ty_n, ty_b, ty_i, ty_s, ty_l, ty_t, if_ff, if_tt, Env.set, List.getElem?_cons_succ, List.getElem?_cons_zero, List.set_cons_succ, List.set_cons_zero, List.reverse_cons, List.reverse_nil, List.nil_append, List.cons_append, Option.bind_some, ite_true, ite_false]
    refine it_2 (fun e0 => ?_) fun e0 => it_2 (fun e1 => ?_) fun e1 => ?_
    · refine c_take n1 (by omega) (by omega) fun r c' r0 r1 hc' => ?_
      exact step r c' r0 r1 hc'
    · have t1 : 1 ≤ t ∧ t ≤ n := ht.resolve_left e0
      have m0 := Int.emod_nonneg ((j : Int) + 1) (show t ≠ 0 by omega)
      have m1 := Int.emod_lt_of_pos ((j : Int) + 1) (show 0 < t by omega)
      exact ⟨by omega, step _ c m0 (by omega) (by omega)⟩
    · have t1 : 1 ≤ t ∧ t ≤ n := ht.resolve_left e0
      refine it_2 (fun e2 => ?_) fun e2 => ?_
      · exact step _ c (by omega) (by omega) (by omega)
      · refine c_take (by omega) (by omega) (by omega) fun r c' r0 r1 hc' => ?_
        exact step r c' r0 (by omega) hc'
theorem m_law_part : ∀ args c Q, p_law_part args c Q → defF k_law_part b_law_part args c Q := by
  rintro _ c Q ⟨n, rfl, h1, h2, h3, q⟩
  show b_law_part _ ⟨[.bx, .sh (.int n), .un, .un, .un, .un], c⟩
  unfold b_law_part
  refine sq_ ?_
  try dsimp only [dVar_, gv_sh, gv_ow, gv_bx, gv_raw, gv_st, dC, dRaw, dOp, dUn, dTest, dTruth, dAnd, dOr, dNot, dYes, dIf, dAndV, dOrV, dNotV, dNotT, dChain, dNil, dCons, dTup, dLst, dats, dCB, dNoP, dPart, dSl, dNext, dBreak, dCont, dNever, dDrop, dRet, dRetN, dIfS, dSetG, dPar, dPar3, dAppend, dAppPop, dSetIx, dExt, dAug, dSet0, dSAdd, dSNotIn, dIter_, gi_l, gi_t, gi_b, dRng1, dRng2, dName, dGNil, dGCons, dGTup, dAsg, dFor, dWhile, dCall, dCallR, dArgs_, ga_f, ga_t, argsOf, dLc, wipeE, dListRg, dIndex, dSortSet, dSortSc, dEnum, dZip, dIsi, dIsi2, isaT, φI, φB, φC, φNeg, add_i, add_l, add_t, mul_i, mul_l, φIx, sl_l, sl_t, eq_i, eq_s, eq_l, eq_t, eq_b, eq_n, φIsN, isN_n, isN_b, isN_i, isN_s, isN_l, isN_t, φLen, φList, φTuple, φAbs, φInt, φMax, φIsB, its_l, its_t, rd_sh, rd_nw, rd_br, rp_sh, rp_nw, rp_br, rp_bx, rp_raw, rp_sr, rr_sh, rr_nw, rr_br, ra_sh, ra_br, ra_bx, ra_raw, va_sh, va_nt, va_nf, va_raw, hb_n, hb_sh, hb_bx, hb_raw, hb_br, sh_n, sh_c, tr_n, tr_b, tr_i, tr_l, tr_t, ty_n, ty_b, ty_i, ty_s, ty_l, ty_t, if_ff, if_tt, Env.set, List.getElem?_cons_succ, List.getElem?_cons_zero, List.set_cons_succ, List.set_cons_zero, List.reverse_cons, List.reverse_nil, List.nil_append, List.cons_append, Option.bind_some, ite_true, ite_false]
  refine c_take (by decide) (by decide) (by omega) fun s c1 s0 s1 hc1 => ?_
  try dsimp only [dVar_, gv_sh, gv_ow, gv_bx, gv_raw, gv_st, dC, dRaw, dOp, dUn, dTest, dTruth, dAnd, dOr, dNot, dYes, dIf, dAndV, dOrV, dNotV, dNotT, dChain, dNil, dCons, dTup, dLst, dats, dCB, dNoP, dPart, dSl, dNext, dBreak, dCont, dNever, dDrop, dRet, dRetN, dIfS, dSetG, dPar, dPar3, dAppend, dAppPop, dSetIx, dExt, dAug, dSet0, dSAdd, dSNotIn, dIter_, gi_l, gi_t, gi_b, dRng1, dRng2, dName, dGNil, dGCons, dGTup, dAsg, dFor, dWhile, dCall, dCallR, dArgs_, ga_f, ga_t, argsOf, dLc, wipeE, dListRg, dIndex, dSortSet, dSortSc, dEnum, dZip, dIsi, dIsi2, isaT, φI, φB, φC, φNeg, add_i, add_l, add_t, mul_i, mul_l, φIx, sl_l, sl_t, eq_i, eq_s, eq_l, eq_t, eq_b, eq_n, φIsN, isN_n, isN_b, isN_i, isN_s, isN_l, isN_t, φLen, φList, φTuple, φAbs, φInt, φMax, φIsB, its_l, its_t, rd_sh, rd_nw, rd_br, rp_sh, rp_nw, rp_br, rp_bx, rp_raw, rp_sr, rr_sh, rr_nw, rr_br, ra_sh, ra_br, ra_bx, ra_raw, va_sh, va_nt, va_nf, va_raw, hb_n, hb_sh, hb_bx, hb_raw, hb_br, sh_n, sh_c, tr_n, tr_b, tr_i, tr_l, tr_t, ty_n, ty_b, ty_i, ty_s, ty_l, ty_t, if_ff, if_tt, Env.set, List.getElem?_cons_succ, List.getElem?_cons_zero, List.set_cons_succ, List.set_cons_zero, List.reverse_cons, List.reverse_nil, List.nil_append, List.cons_append, Option.bind_some, ite_true, ite_false]
  refine sq_ ?_
  try dsimp only [dVar_, gv_sh, gv_ow, gv_bx, gv_raw, gv_st, dC, dRaw, dOp, dUn, dTest, dTruth, dAnd, dOr, dNot, dYes, dIf, dAndV, dOrV, dNotV, dNotT, dChain, dNil, dCons, dTup, dLst, dats, dCB, dNoP, dPart, dSl, dNext, dBreak, dCont, dNever, dDrop, dRet, dRetN, dIfS, dSetG, dPar, dPar3, dAppend, dAppPop, dSetIx, dExt, dAug, dSet0, dSAdd, dSNotIn, dIter_, gi_l, gi_t, gi_b, dRng1, dRng2, dName, dGNil, dGCons, dGTup, dAsg, dFor, dWhile, dCall, dCallR, dArgs_, ga_f, ga_t, argsOf, dLc, wipeE, dListRg, dIndex, dSortSet, dSortSc, dEnum, dZip, dIsi, dIsi2, isaT, φI, φB, φC, φNeg, add_i, add_l, add_t, mul_i, mul_l, φIx, sl_l, sl_t, eq_i, eq_s, eq_l, eq_t, eq_b, eq_n, φIsN, isN_n, isN_b, isN_i, isN_s, isN_l, isN_t, φLen, φList, φTuple, φAbs, φInt, φMax, φIsB, its_l, its_t, rd_sh, rd_nw, rd_br, rp_sh, rp_nw, rp_br, rp_bx, rp_raw, rp_sr, rr_sh, rr_nw, rr_br, ra_sh, ra_br, ra_bx, ra_raw, va_sh, va_nt, va_nf, va_raw, hb_n, hb_sh, hb_bx, hb_raw, hb_br, sh_n, sh_c, tr_n, tr_b, tr_i, tr_l, tr_t, ty_n, ty_b, ty_i, ty_s, ty_l, ty_t, if_ff, if_tt, Env.set, List.getElem?_cons_succ, List.getElem?_cons_zero, List.set_cons_succ, List.set_cons_zero, List.reverse_cons, List.reverse_nil, List.nil_append, List.cons_append, Option.bind_some, ite_true, ite_false]
  refine c_take h1 (by omega) (by omega) fun r c2 r0 r1 hc2 => ?_
  try dsimp only [dVar_, gv_sh, gv_ow, gv_bx, gv_raw, gv_st, dC, dRaw, dOp, dUn, dTest, dTruth, dAnd, dOr, dNot, dYes, dIf, dAndV, dOrV, dNotV, dNotT, dChain, dNil, dCons, dTup, dLst, dats, dCB, dNoP, dPart, dSl, dNext, dBreak, dCont, dNever, dDrop, dRet, dRetN, dIfS, dSetG, dPar, dPar3, dAppend, dAppPop, dSetIx, dExt, dAug, dSet0, dSAdd, dSNotIn, dIter_, gi_l, gi_t, gi_b, dRng1, dRng2, dName, dGNil, dGCons, dGTup, dAsg, dFor, dWhile, dCall, dCallR, dArgs_, ga_f, ga_t, argsOf, dLc, wipeE, dListRg, dIndex, dSortSet, dSortSc, dEnum, dZip, dIsi, dIsi2, isaT, φI, φB, φC, φNeg, add_i, add_l, add_t, mul_i, mul_l, φIx, sl_l, sl_t, eq_i, eq_s, eq_l, eq_t, eq_b, eq_n, φIsN, isN_n, isN_b, isN_i, isN_s, isN_l, isN_t, φLen, φList, φTuple, φAbs, φInt, φMax, φIsB, its_l, its_t, rd_sh, rd_nw, rd_br, rp_sh, rp_nw, rp_br, rp_bx, rp_raw, rp_sr, rr_sh, rr_nw, rr_br, ra_sh, ra_br, ra_bx, ra_raw, va_sh, va_nt, va_nf, va_raw, hb_n, hb_sh, hb_bx, hb_raw, hb_br, sh_n, sh_c, tr_n, tr_b, tr_i, tr_l, tr_t, ty_n, ty_b, ty_i, ty_s, ty_l, ty_t, if_ff, if_tt, Env.set, List.getElem?_cons_succ, List.getElem?_cons_zero, List.set_cons_succ, List.set_cons_zero, List.reverse_cons, List.reverse_nil, List.nil_append, List.cons_append, Option.bind_some, ite_true, ite_false]
  have ht : ∃ t : Int, atI [PyData.int 0, .int 1, .int n, .int (1 + r), .int 1] s = some (.int t) ∧ (s = 0 ∨ (1 ≤ t ∧ t ≤ n)) := by
    have : s = 0 ∨ s = 1 ∨ s = 2 ∨ s = 3 ∨ s = 4 := by omega
    rcases this with rfl | rfl | rfl | rfl | rfl
    · exact ⟨_, rfl, .inl rfl⟩
    · exact ⟨_, rfl, .inr (by omega)⟩
    · exact ⟨_, rfl, .inr (by omega)⟩
    · exact ⟨_, rfl, .inr (by omega)⟩
    · exact ⟨_, rfl, .inr (by omega)⟩
  obtain ⟨t, e, ht⟩ := ht
  refine ⟨.int t, e, ?_⟩
  try dsimp only [dVar_, gv_sh, gv_ow, gv_bx, gv_raw, gv_st, dC, dRaw, dOp, dUn, dTest, dTruth, dAnd, dOr, dNot, dYes, dIf, dAndV, dOrV, dNotV, dNotT, dChain, dNil, dCons, dTup, dLst, dats, dCB, dNoP, dPart, dSl, dNext, dBreak, dCont, dNever, dDrop, dRet, dRetN, dIfS, dSetG, dPar, dPar3, dAppend, dAppPop, dSetIx, dExt, dAug, dSet0, dSAdd, dSNotIn, dIter_, gi_l, gi_t, gi_b, dRng1, dRng2, dName, dGNil, dGCons, dGTup, dAsg, dFor, dWhile, dCall, dCallR, dArgs_, ga_f, ga_t, argsOf, dLc, wipeE, dListRg, dIndex, dSortSet, dSortSc, dEnum, dZip, dIsi, dIsi2, isaT, φI, φB, φC, φNeg, add_i, add_l, add_t, mul_i, mul_l, φIx, sl_l, sl_t, eq_i, eq_s, eq_l, eq_t, eq_b, eq_n, φIsN, isN_n, isN_b, isN_i, isN_s, isN_l, isN_t, φLen, φList, φTuple, φAbs, φInt, φMax, φIsB, its_l, its_t, rd_sh, rd_nw, rd_br, rp_sh, rp_nw, rp_br, rp_bx, rp_raw, rp_sr, rr_sh, rr_nw, rr_br, ra_sh, ra_br, ra_bx, ra_raw, va_sh, va_nt, va_nf, va_raw, hb_n, hb_sh, hb_bx, hb_raw, hb_br, sh_n, sh_c, tr_n, tr_b, tr_i, tr_l, tr_t, ty_n, ty_b, ty_i, ty_s, ty_l, ty_t, if_ff, if_tt, Env.set, List.getElem?_cons_succ, List.getElem?_cons_zero, List.set_cons_succ, List.set_cons_zero, List.reverse_cons, List.reverse_nil, List.nil_append, List.cons_append, Option.bind_some, ite_true, ite_false]
  refine sq_ ?_
  try dsimp only [dVar_, gv_sh, gv_ow, gv_bx, gv_raw, gv_st, dC, dRaw, dOp, dUn, dTest, dTruth, dAnd, dOr, dNot, dYes, dIf, dAndV, dOrV, dNotV, dNotT, dChain, dNil, dCons, dTup, dLst, dats, dCB, dNoP, dPart, dSl, dNext, dBreak, dCont, dNever, dDrop, dRet, dRetN, dIfS, dSetG, dPar, dPar3, dAppend, dAppPop, dSetIx, dExt, dAug, dSet0, dSAdd, dSNotIn, dIter_, gi_l, gi_t, gi_b, dRng1, dRng2, dName, dGNil, dGCons, dGTup, dAsg, dFor, dWhile, dCall, dCallR, dArgs_, ga_f, ga_t, argsOf, dLc, wipeE, dListRg, dIndex, dSortSet, dSortSc, dEnum, dZip, dIsi, dIsi2, isaT, φI, φB, φC, φNeg, add_i, add_l, add_t, mul_i, mul_l, φIx, sl_l, sl_t, eq_i, eq_s, eq_l, eq_t, eq_b, eq_n, φIsN, isN_n, isN_b, isN_i, isN_s, isN_l, isN_t, φLen, φList, φTuple, φAbs, φInt, φMax, φIsB, its_l, its_t, rd_sh, rd_nw, rd_br, rp_sh, rp_nw, rp_br, rp_bx, rp_raw, rp_sr, rr_sh, rr_nw, rr_br, ra_sh, ra_br, ra_bx, ra_raw, va_sh, va_nt, va_nf, va_raw, hb_n, hb_sh, hb_bx, hb_raw, hb_br, sh_n, sh_c, tr_n, tr_b, tr_i, tr_l, tr_t, ty_n, ty_b, ty_i, ty_s, ty_l, ty_t, if_ff, if_tt, Env.set, List.getElem?_cons_succ, List.getElem?_cons_zero, List.set_cons_succ, List.set_cons_zero, List.reverse_cons, List.reverse_nil, List.nil_append, List.cons_append, Option.bind_some, ite_true, ite_false]
  refine ⟨⟨by omega, by omega⟩, rfl, ?_⟩
  rw [rg0]
  refine part_loop (fs := []) rfl h1 h2 ht (List.range n.toNat) _ c2 (fun j hj => by have := List.mem_range.mp hj; omega) (fun _ h => nomatch h) (by rw [List.length_range]; show 0 + _ ≤ _; omega) (by rw [List.length_range]; omega) fun gs c3 y h4 h5 h6 => ?_
  rw [List.length_range] at h5 h6
  try dsimp only [dVar_, gv_sh, gv_ow, gv_bx, gv_raw, gv_st, dC, dRaw, dOp, dUn, dTest, dTruth, dAnd, dOr, dNot, dYes, dIf, dAndV, dOrV, dNotV, dNotT, dChain, dNil, dCons, dTup, dLst, dats, dCB, dNoP, dPart, dSl, dNext, dBreak, dCont, dNever, dDrop, dRet, dRetN, dIfS, dSetG, dPar, dPar3, dAppend, dAppPop, dSetIx, dExt, dAug, dSet0, dSAdd, dSNotIn, dIter_, gi_l, gi_t, gi_b, dRng1, dRng2, dName, dGNil, dGCons, dGTup, dAsg, dFor, dWhile, dCall, dCallR, dArgs_, ga_f, ga_t, argsOf, dLc, wipeE, dListRg, dIndex, dSortSet, dSortSc, dEnum, dZip, dIsi, dIsi2, isaT, φI, φB, φC, φNeg, add_i, add_l, add_t, mul_i, mul_l, φIx, sl_l, sl_t, eq_i, eq_s, eq_l, eq_t, eq_b, eq_n, φIsN, isN_n, isN_b, isN_i, isN_s, isN_l, isN_t, φLen, φList, φTuple, φAbs, φInt, φMax, φIsB, its_l, its_t, rd_sh, rd_nw, rd_br, rp_sh, rp_nw, rp_br, rp_bx, rp_raw, rp_sr, rr_sh, rr_nw, rr_br, ra_sh, ra_br, ra_bx, ra_raw, va_sh, va_nt, va_nf, va_raw, hb_n, hb_sh, hb_bx, hb_raw, hb_br, sh_n, sh_c, tr_n, tr_b, tr_i, tr_l, tr_t, ty_n, ty_b, ty_i, ty_s, ty_l, ty_t, if_ff, if_tt, Env.set, List.getElem?_cons_succ, List.getElem?_cons_zero, List.set_cons_succ, List.set_cons_zero, List.reverse_cons, List.reverse_nil, List.nil_append, List.cons_append, Option.bind_some, ite_true, ite_false]
  exact q gs c3 ⟨by rw [h5]; show 0 + _ = _; omega, h4⟩ (by omega)
/-! ### _law_mixed -/
/-- _law_mixed: _law_box_here, _law_found, _law_tags, _law_here, _law_who, _law_aim -/
def b_law_mixed : DTS := (dSeq (dPar 2 false 3 true (dCall p_law_strewn_2 (dCons (dVar 0) (dCons (dListRg (dCB φLen (dCons (dVar 1) dNil))) dNil))) (dOp φMul (dLst (dCons (dC (.int 0)) dNil)) (dCB φLen (dCons (dVar 1) dNil))))
  (dSeq (dFor (dEnum (dCons (dVar 1) dNil)) (dGTup 2 (dGCons (dName 4) (dGCons (dName 5) dGNil))) (dSetIx 3 (dOp φIx (dVar 2) (dVar 5)) (dOp φIx (dVar 2) (dVar 4))))
  (dRet (dCB φTuple (dCons (dVar 3) dNil)))))
abbrev k_law_mixed : Nat := 4
def p_law_mixed : DSp := fun args c Q => ∃ fs : List Int, args = [.bx, .sh (.list (dI fs))] ∧ Stt fs ∧ c ≤ 800000000 ∧ ∀ ns c', NetOk fs.length ns → c' ≤ c + 3 * fs.length → Q (.sh (.tuple (dI ns))) c'
theorem mon_law_mixed : MonF p_law_mixed := fun args c A B h ⟨n, e, h1, h2, q⟩ => ⟨n, e, h1, h2, fun r c' a b => h _ _ (q r c' a b)⟩
theorem mixed_loop {x : SV} {tags : List Int} {n : Nat} {Δ : DEnds} {c : Nat} {p : DTS} (hp : p = dSetIx 3 (dOp φIx (dVar 2) (dVar 5)) (dOp φIx (dVar 2) (dVar 4))) (ht : NetOk n tags) :
    ∀ (ps : List (Int × Nat)) (hs : List Int) (y z : SV), (∀ q ∈ ps, 0 ≤ q.1 ∧ q.1 < (n : Int) ∧ q.2 < n) → NetOk n hs →
      (∀ hs y z, NetOk n hs → Δ.nx ⟨[.bx, x, .sh (.list (dI tags)), .ow (dI hs), y, z], c⟩) →
      forD (dGTup 2 (dGCons (dName 4) (dGCons (dName 5) dGNil))) p Δ (ps.map fun p => .tuple [.int (p.2 : Nat), .int p.1]) ⟨[.bx, x, .sh (.list (dI tags)), .ow (dI hs), y, z], c⟩
  | [], hs, y, z, _, hh, q => q hs y z hh
  | (w, a) :: ps, hs, y, z, hps, hh, q => by
    obtain ⟨h1, h2, h3⟩ := hps (w, a) List.mem_cons_self
    have hl := ht.1
    have hl2 := hh.1
    have h4 : (a : Int) < (tags.length : Int) := by omega
    have h5 : w < (tags.length : Int) := by omega
    have g1 := gt_low ht.2 (i := (a : Int)) (by omega) h4
    have g2 := gt_low ht.2 h1 h5
    refine for_cons ?_
    subst hp
    try dsimp only [dVar_, gv_sh, gv_ow, gv_bx, gv_raw, gv_st, dC, dRaw, dOp, dUn, dTest, dTruth, dAnd, dOr, dNot, dYes, dIf, dAndV, dOrV, dNotV, dNotT, dChain, dNil, dCons, dTup, dLst, dats, dCB, dNoP, dPart, dSl, dNext, dBreak, dCont, dNever, dDrop, dRet, dRetN, dIfS, dSetG, dPar, dPar3, dAppend, dAppPop, dSetIx, dExt, dAug, dSet0, dSAdd, dSNotIn, dIter_, gi_l, gi_t, gi_b, dRng1, dRng2, dName, dGNil, dGCons, dGTup, dAsg, dFor, dWhile, dCall, dCallR, dArgs_, ga_f, ga_t, argsOf, dLc, wipeE, dListRg, dIndex, dSortSet, dSortSc, dEnum, dZip, dIsi, dIsi2, isaT, φI, φB, φC, φNeg, add_i, add_l, add_t, mul_i, mul_l, φIx, sl_l, sl_t, eq_i, eq_s, eq_l, eq_t, eq_b, eq_n, φIsN, isN_n, isN_b, isN_i, isN_s, isN_l, isN_t, φLen, φList, φTuple, φAbs, φInt, φMax, φIsB, its_l, its_t, rd_sh, rd_nw, rd_br, rp_sh, rp_nw, rp_br, rp_bx, rp_raw, rp_sr, rr_sh, rr_nw, rr_br, ra_sh, ra_br, ra_bx, ra_raw, va_sh, va_nt, va_nf, va_raw, hb_n, hb_sh, hb_bx, hb_raw, hb_br, sh_n, sh_c, tr_n, tr_b, tr_i, tr_l, tr_t, ty_n, ty_b, ty_i, ty_s, ty_l, ty_t, if_ff, if_tt, Env.set, List.getElem?_cons_succ, List.getElem?_cons_zero, List.set_cons_succ, List.set_cons_zero, List.reverse_cons, List.reverse_nil, List.nil_append, List.cons_append, Option.bind_some, ite_true, ite_false]
    refine ⟨rfl, _, atI_dI h1 h5, _, atI_dI (by omega) h4, ?_⟩
    refine ⟨_, ixN_ok g1.1 (by rw [dI_len]; omega), ?_⟩
    rw [dI_set]
    exact mixed_loop rfl ht ps _ _ _ (fun q hq => hps q (List.mem_cons_of_mem _ hq)) ⟨by rw [List.length_set]; exact hl2, hh.2.set g2.1 g2.2⟩ q
theorem rep_zero (n : Nat) : (List.replicate n [PyData.int 0]).flatten = dI (List.replicate n 0) := by
  show _ = (List.replicate n (0 : Int)).map _
  rw [List.map_replicate]
  induction n with
  | zero => rfl
  | succ m ih => rw [List.replicate_succ, List.flatten_cons, ih, List.replicate_succ]; rfl
theorem m_law_mixed : ∀ args c Q, p_law_mixed args c Q → defF k_law_mixed b_law_mixed args c Q := by
  rintro _ c Q ⟨fs, rfl, h1, h2, q⟩
  have hle := h1.le
  have hge := h1.ge
  show b_law_mixed _ ⟨[.bx, .sh (.list (dI fs)), .un, .un, .un, .un], c⟩
  unfold b_law_mixed
  refine sq_ ?_
  try dsimp only [dVar_, gv_sh, gv_ow, gv_bx, gv_raw, gv_st, dC, dRaw, dOp, dUn, dTest, dTruth, dAnd, dOr, dNot, dYes, dIf, dAndV, dOrV, dNotV, dNotT, dChain, dNil, dCons, dTup, dLst, dats, dCB, dNoP, dPart, dSl, dNext, dBreak, dCont, dNever, dDrop, dRet, dRetN, dIfS, dSetG, dPar, dPar3, dAppend, dAppPop, dSetIx, dExt, dAug, dSet0, dSAdd, dSNotIn, dIter_, gi_l, gi_t, gi_b, dRng1, dRng2, dName, dGNil, dGCons, dGTup, dAsg, dFor, dWhile, dCall, dCallR, dArgs_, ga_f, ga_t, argsOf, dLc, wipeE, dListRg, dIndex, dSortSet, dSortSc, dEnum, dZip, dIsi, dIsi2, isaT, φI, φB, φC, φNeg, add_i, add_l, add_t, mul_i, mul_l, φIx, sl_l, sl_t, eq_i, eq_s, eq_l, eq_t, eq_b, eq_n, φIsN, isN_n, isN_b, isN_i, isN_s, isN_l, isN_t, φLen, φList, φTuple, φAbs, φInt, φMax, φIsB, its_l, its_t, rd_sh, rd_nw, rd_br, rp_sh, rp_nw, rp_br, rp_bx, rp_raw, rp_sr, rr_sh, rr_nw, rr_br, ra_sh, ra_br, ra_bx, ra_raw, va_sh, va_nt, va_nf, va_raw, hb_n, hb_sh, hb_bx, hb_raw, hb_br, sh_n, sh_c, tr_n, tr_b, tr_i, tr_l, tr_t, ty_n, ty_b, ty_i, ty_s, ty_l, ty_t, if_ff, if_tt, Env.set, List.getElem?_cons_succ, List.getElem?_cons_zero, List.set_cons_succ, List.set_cons_zero, List.reverse_cons, List.reverse_nil, List.nil_append, List.cons_append, Option.bind_some, ite_true, ite_false]
  rw [dI_len]
  refine ⟨by omega, by omega, ?_⟩
  rw [Int.toNat_natCast, rg0]
  have er : (List.range fs.length).map (fun i : Nat => PyData.int (i : Nat)) = dI ((List.range fs.length).map fun i : Nat => (i : Int)) := by
    show _ = List.map _ (List.map _ _); rw [List.map_map]; rfl
  rw [er]
  have el : ((List.range fs.length).map fun i : Nat => (i : Int)).length = fs.length := by rw [List.length_map, List.length_range]
  refine ⟨_, _, rfl, its_l _, by omega, by omega, fun es c1 hp hc1 => ?_⟩
  have hes := perm_low hp
  try dsimp only [dVar_, gv_sh, gv_ow, gv_bx, gv_raw, gv_st, dC, dRaw, dOp, dUn, dTest, dTruth, dAnd, dOr, dNot, dYes, dIf, dAndV, dOrV, dNotV, dNotT, dChain, dNil, dCons, dTup, dLst, dats, dCB, dNoP, dPart, dSl, dNext, dBreak, dCont, dNever, dDrop, dRet, dRetN, dIfS, dSetG, dPar, dPar3, dAppend, dAppPop, dSetIx, dExt, dAug, dSet0, dSAdd, dSNotIn, dIter_, gi_l, gi_t, gi_b, dRng1, dRng2, dName, dGNil, dGCons, dGTup, dAsg, dFor, dWhile, dCall, dCallR, dArgs_, ga_f, ga_t, argsOf, dLc, wipeE, dListRg, dIndex, dSortSet, dSortSc, dEnum, dZip, dIsi, dIsi2, isaT, φI, φB, φC, φNeg, add_i, add_l, add_t, mul_i, mul_l, φIx, sl_l, sl_t, eq_i, eq_s, eq_l, eq_t, eq_b, eq_n, φIsN, isN_n, isN_b, isN_i, isN_s, isN_l, isN_t, φLen, φList, φTuple, φAbs, φInt, φMax, φIsB, its_l, its_t, rd_sh, rd_nw, rd_br, rp_sh, rp_nw, rp_br, rp_bx, rp_raw, rp_sr, rr_sh, rr_nw, rr_br, ra_sh, ra_br, ra_bx, ra_raw, va_sh, va_nt, va_nf, va_raw, hb_n, hb_sh, hb_bx, hb_raw, hb_br, sh_n, sh_c, tr_n, tr_b, tr_i, tr_l, tr_t, ty_n, ty_b, ty_i, ty_s, ty_l, ty_t, if_ff, if_tt, Env.set, List.getElem?_cons_succ, List.getElem?_cons_zero, List.set_cons_succ, List.set_cons_zero, List.reverse_cons, List.reverse_nil, List.nil_append, List.cons_append, Option.bind_some, ite_true, ite_false]
  refine ⟨⟨by omega, by omega, show 1 * _ ≤ 16777216 by omega⟩, ?_⟩
  refine sq_ ?_
  try dsimp only [dVar_, gv_sh, gv_ow, gv_bx, gv_raw, gv_st, dC, dRaw, dOp, dUn, dTest, dTruth, dAnd, dOr, dNot, dYes, dIf, dAndV, dOrV, dNotV, dNotT, dChain, dNil, dCons, dTup, dLst, dats, dCB, dNoP, dPart, dSl, dNext, dBreak, dCont, dNever, dDrop, dRet, dRetN, dIfS, dSetG, dPar, dPar3, dAppend, dAppPop, dSetIx, dExt, dAug, dSet0, dSAdd, dSNotIn, dIter_, gi_l, gi_t, gi_b, dRng1, dRng2, dName, dGNil, dGCons, dGTup, dAsg, dFor, dWhile, dCall, dCallR, dArgs_, ga_f, ga_t, argsOf, dLc, wipeE, dListRg, dIndex, dSortSet, dSortSc, dEnum, dZip, dIsi, dIsi2, isaT, φI, φB, φC, φNeg, add_i, add_l, add_t, mul_i, mul_l, φIx, sl_l, sl_t, eq_i, eq_s, eq_l, eq_t, eq_b, eq_n, φIsN, isN_n, isN_b, isN_i, isN_s, isN_l, isN_t, φLen, φList, φTuple, φAbs, φInt, φMax, φIsB, its_l, its_t, rd_sh, rd_nw, rd_br, rp_sh, rp_nw, rp_br, rp_bx, rp_raw, rp_sr, rr_sh, rr_nw, rr_br, ra_sh, ra_br, ra_bx, ra_raw, va_sh, va_nt, va_nf, va_raw, hb_n, hb_sh, hb_bx, hb_raw, hb_br, sh_n, sh_c, tr_n, tr_b, tr_i, tr_l, tr_t, ty_n, ty_b, ty_i, ty_s, ty_l, ty_t, if_ff, if_tt, Env.set, List.getElem?_cons_succ, List.getElem?_cons_zero, List.set_cons_succ, List.set_cons_zero, List.reverse_cons, List.reverse_nil, List.nil_append, List.cons_append, Option.bind_some, ite_true, ite_false]
  rw [rep_zero, enD_dI]
  refine ⟨rfl, mixed_loop rfl hes fs.zipIdx _ _ _ (fun q hq => ?_) ⟨List.length_replicate, fun z hz => ?_⟩ fun hs y z hh => ?_⟩
  · have e := List.mem_zipIdx_iff_getElem?.mp hq
    have := h1.lo q.1 (List.mem_of_getElem? e)
    have := (List.getElem?_eq_some_iff.mp e).1
    omega
  · rw [List.eq_of_mem_replicate hz]; omega
  · try dsimp only [dVar_, gv_sh, gv_ow, gv_bx, gv_raw, gv_st, dC, dRaw, dOp, dUn, dTest, dTruth, dAnd, dOr, dNot, dYes, dIf, dAndV, dOrV, dNotV, dNotT, dChain, dNil, dCons, dTup, dLst, dats, dCB, dNoP, dPart, dSl, dNext, dBreak, dCont, dNever, dDrop, dRet, dRetN, dIfS, dSetG, dPar, dPar3, dAppend, dAppPop, dSetIx, dExt, dAug, dSet0, dSAdd, dSNotIn, dIter_, gi_l, gi_t, gi_b, dRng1, dRng2, dName, dGNil, dGCons, dGTup, dAsg, dFor, dWhile, dCall, dCallR, dArgs_, ga_f, ga_t, argsOf, dLc, wipeE, dListRg, dIndex, dSortSet, dSortSc, dEnum, dZip, dIsi, dIsi2, isaT, φI, φB, φC, φNeg, add_i, add_l, add_t, mul_i, mul_l, φIx, sl_l, sl_t, eq_i, eq_s, eq_l, eq_t, eq_b, eq_n, φIsN, isN_n, isN_b, isN_i, isN_s, isN_l, isN_t, φLen, φList, φTuple, φAbs, φInt, φMax, φIsB, its_l, its_t, rd_sh, rd_nw, rd_br, rp_sh, rp_nw, rp_br, rp_bx, rp_raw, rp_sr, rr_sh, rr_nw, rr_br, ra_sh, ra_br, ra_bx, ra_raw, va_sh, va_nt, va_nf, va_raw, hb_n, hb_sh, hb_bx, hb_raw, hb_br, sh_n, sh_c, tr_n, tr_b, tr_i, tr_l, tr_t, ty_n, ty_b, ty_i, ty_s, ty_l, ty_t, if_ff, if_tt, Env.set, List.getElem?_cons_succ, List.getElem?_cons_zero, List.set_cons_succ, List.set_cons_zero, List.reverse_cons, List.reverse_nil, List.nil_append, List.cons_append, Option.bind_some, ite_true, ite_false]
    exact q hs c1 hh (by omega)
end Lp

namespace Lp
open PySem PySem.Spec PyProof.Rows L2
/-! ### _law_drawn -/
/-- _law_drawn: _law_box_here, _law_most, _law_size, _law_found, _law_left, _law_some, _law_aim -/
def b_law_drawn : DTS := (dSeq (dPar 2 false 3 false (dOp φAdd (dC (.int 1)) (dCall p_law_take (dCons (dVar 0) (dCons (dVar 1) dNil)))) (dLst dNil))
  (dSeq (dWhile (dTest (dOp (φB fun i j => decide (i < j)) (dCB φLen (dCons (dVar 3) dNil)) (dVar 2))) (dSeq (dSetG false 4 (dOp (φI fun i j => i - j) (dVar 2) (dCB φLen (dCons (dVar 3) dNil))))
  (dSeq (dSetG false 5 (dCall p_law_part (dCons (dVar 0) (dCons (dCall p_law_pick (dCons (dVar 0) (dCons (dLst (dCons (dVar 4) (dCons (dVar 4) (dCons (dOp φAdd (dC (.int 1)) (dCall p_law_take (dCons (dVar 0) (dCons (dVar 4) dNil)))) dNil)))) dNil))) dNil))))
  (dSetG false 3 (dOp φAdd (dVar 3) (dLc (dIter (dVar 5)) (dName 6) dYes (dOp φAdd (dCB φLen (dCons (dVar 3) dNil)) (dVar 6)) [6]))))))
  (dRet (dCall p_law_mixed (dCons (dVar 0) (dCons (dVar 3) dNil))))))
abbrev k_law_drawn : Nat := 5
def p_law_drawn : DSp := fun args c Q => ∃ m : Int, args = [.bx, .sh (.int m)] ∧ 1 ≤ m ∧ m ≤ 1000 ∧ c ≤ 700000000 ∧ ∀ ns c', Stt ns → (ns.length : Int) ≤ m → c' ≤ c + 20000 → Q (.sh (.tuple (dI ns))) c'
theorem mon_law_drawn : MonF p_law_drawn := fun args c A B h ⟨n, e, h1, h2, h3, q⟩ => ⟨n, e, h1, h2, h3, fun r c' a b d => h _ _ (q r c' a b d)⟩
theorem drawn_loop {m n : Int} {Δ : DEnds} (n1 : 1 ≤ n) (n2 : n ≤ 1000) {p : DTS} (hp : p = (dSeq (dSetG false 4 (dOp (φI fun i j => i - j) (dVar 2) (dCB φLen (dCons (dVar 3) dNil))))
  (dSeq (dSetG false 5 (dCall p_law_part (dCons (dVar 0) (dCons (dCall p_law_pick (dCons (dVar 0) (dCons (dLst (dCons (dVar 4) (dCons (dVar 4) (dCons (dOp φAdd (dC (.int 1)) (dCall p_law_take (dCons (dVar 0) (dCons (dVar 4) dNil)))) dNil)))) dNil))) dNil))))
  (dSetG false 3 (dOp φAdd (dVar 3) (dLc (dIter (dVar 5)) (dName 6) dYes (dOp φAdd (dCB φLen (dCons (dVar 3) dNil)) (dVar 6)) [6])))))) :
    ∀ (f k : Nat) (fs : List Int) (y z : SV) (c : Nat), k < f → fs.length + k = n.toNat → Low fs.length fs → c + 15 * k ≤ 750000000 →
      (∀ gs c' y z, gs.length = n.toNat → Low n.toNat gs → c' ≤ c + 15 * k → Δ.nx ⟨[.bx, .sh (.int m), .sh (.int n), .sh (.list (dI gs)), y, z, .un], c'⟩) →
      whileN (dTest (dOp (φB fun i j => decide (i < j)) (dCB φLen (dCons (dVar 3) dNil)) (dVar 2))) p Δ f ⟨[.bx, .sh (.int m), .sh (.int n), .sh (.list (dI fs)), y, z, .un], c⟩
  | 0, k, _, _, _, _, h, _, _, _, _ => absurd h (Nat.not_lt_zero _)
  | f + 1, k, fs, y, z, c, hf, hk, lo, hc, q => by
    have key : ∀ (ps : List Int) (c' : Nat), ps.length + fs.length ≤ n.toNat → 1 ≤ ps.length → Low ps.length ps → c' + 15 * (k - ps.length) ≤ c + 15 * k → whileN (dTest (dOp (φB fun i j => decide (i < j)) (dCB φLen (dCons (dVar 3) dNil)) (dVar 2))) p Δ f ⟨[.bx, .sh (.int m), .sh (.int n), .sh (.list (dI fs ++ ps.map fun a => .int ((fs.length : Int) + a))), .sh (.int (n - fs.length)), .sh (.list (dI ps)), .un], c'⟩ := by
      intro ps c' h1 h2 lp hc'
      have e : dI fs ++ ps.map (fun a => PyData.int ((fs.length : Int) + a)) = dI (fs ++ ps.map fun a => (fs.length : Int) + a) := by
        rw [← dI_app]; congr 1
        show _ = List.map _ (List.map _ _)
        rw [List.map_map]; rfl
      rw [e]
      refine drawn_loop n1 n2 hp f (k - ps.length) _ _ _ c' (by omega) (by rw [List.length_append, List.length_map]; omega) (fun x hx => ?_) (by omega) fun gs c2 y z h3 h4 h5 => q gs c2 y z h3 h4 (by omega)
      rw [List.length_append, List.length_map]
      rcases List.mem_append.mp hx with h | h
      · have := lo x h
        omega
      · obtain ⟨a, ha, rfl⟩ := List.mem_map.mp h
        have := lp a ha
        omega
    have part : ∀ (v : Int) (c' : Nat), 1 ≤ v → v ≤ n - fs.length → c' ≤ c + 6 → p_law_part [.bx, .sh (.int v)] c' fun r c'' => ∃ ps, r = .nw (dI ps) ∧ ps.length + fs.length ≤ n.toNat ∧ 1 ≤ ps.length ∧ Low ps.length ps ∧ c'' + 15 * (k - ps.length) ≤ c + 15 * k := by
      intro v c' v1 v2 hc'
      refine ⟨v, rfl, v1, by omega, by omega, fun ps c'' hp hc'' => ?_⟩
      obtain ⟨e, lp⟩ := hp
      exact ⟨ps, rfl, by omega, by omega, by rw [e]; exact lp, by omega⟩
    unfold whileN
    try dsimp only [dVar_, gv_sh, gv_ow, gv_bx, gv_raw, gv_st, dC, dRaw, dOp, dUn, dTest, dTruth, dAnd, dOr, dNot, dYes, dIf, dAndV, dOrV, dNotV, dNotT, dChain, dNil, dCons, dTup, dLst, dats, dCB, dNoP, dPart, dSl, dNext, dBreak, dCont, dNever, dDrop, dRet, dRetN, dIfS, dSetG, dPar, dPar3, dAppend, dAppPop, dSetIx, dExt, dAug, dSet0, dSAdd, dSNotIn, dIter_, gi_l, gi_t, gi_b, dRng1, dRng2, dName, dGNil, dGCons, dGTup, dAsg, dFor, dWhile, dCall, dCallR, dArgs_, ga_f, ga_t, argsOf, dLc, wipeE, dListRg, dIndex, dSortSet, dSortSc, dEnum, dZip, dIsi, dIsi2, isaT, φI, φB, φC, φNeg, add_i, add_l, add_t, mul_i, mul_l, φIx, sl_l, sl_t, eq_i, eq_s, eq_l, eq_t, eq_b, eq_n, φIsN, isN_n, isN_b, isN_i, isN_s, isN_l, isN_t, φLen, φList, φTuple, φAbs, φInt, φMax, φIsB, its_l, its_t, rd_sh, rd_nw, rd_br, rp_sh, rp_nw, rp_br, rp_bx, rp_raw, rp_sr, rr_sh, rr_nw, rr_br, ra_sh, ra_br, ra_bx, ra_raw, va_sh, va_nt, va_nf, va_raw, hb_n, hb_sh, hb_bx, hb_raw, hb_br, sh_n, sh_c, tr_n, tr_b, tr_i, tr_l, tr_t, ty_n, ty_b, ty_i, ty_s, ty_l, ty_t, if_ff, if_tt, Env.set, List.getElem?_cons_succ, List.getElem?_cons_zero, List.set_cons_succ, List.set_cons_zero, List.reverse_cons, List.reverse_nil, List.nil_append, List.cons_append, Option.bind_some, ite_true, ite_false]
    rw [dI_len]
    refine it_2 (fun hlt => ?_) fun hge => ?_
    · rw [hp] at key ⊢
      refine sq_ ?_
      try dsimp only [dVar_, gv_sh, gv_ow, gv_bx, gv_raw, gv_st, dC, dRaw, dOp, dUn, dTest, dTruth, dAnd, dOr, dNot, dYes, dIf, dAndV, dOrV, dNotV, dNotT, dChain, dNil, dCons, dTup, dLst, dats, dCB, dNoP, dPart, dSl, dNext, dBreak, dCont, dNever, dDrop, dRet, dRetN, dIfS, dSetG, dPar, dPar3, dAppend, dAppPop, dSetIx, dExt, dAug, dSet0, dSAdd, dSNotIn, dIter_, gi_l, gi_t, gi_b, dRng1, dRng2, dName, dGNil, dGCons, dGTup, dAsg, dFor, dWhile, dCall, dCallR, dArgs_, ga_f, ga_t, argsOf, dLc, wipeE, dListRg, dIndex, dSortSet, dSortSc, dEnum, dZip, dIsi, dIsi2, isaT, φI, φB, φC, φNeg, add_i, add_l, add_t, mul_i, mul_l, φIx, sl_l, sl_t, eq_i, eq_s, eq_l, eq_t, eq_b, eq_n, φIsN, isN_n, isN_b, isN_i, isN_s, isN_l, isN_t, φLen, φList, φTuple, φAbs, φInt, φMax, φIsB, its_l, its_t, rd_sh, rd_nw, rd_br, rp_sh, rp_nw, rp_br, rp_bx, rp_raw, rp_sr, rr_sh, rr_nw, rr_br, ra_sh, ra_br, ra_bx, ra_raw, va_sh, va_nt, va_nf, va_raw, hb_n, hb_sh, hb_bx, hb_raw, hb_br, sh_n, sh_c, tr_n, tr_b, tr_i, tr_l, tr_t, ty_n, ty_b, ty_i, ty_s, ty_l, ty_t, if_ff, if_tt, Env.set, List.getElem?_cons_succ, List.getElem?_cons_zero, List.set_cons_succ, List.set_cons_zero, List.reverse_cons, List.reverse_nil, List.nil_append, List.cons_append, Option.bind_some, ite_true, ite_false]
      rw [dI_len]
      refine sqa_ fun D hD => ?_
      try dsimp only [dVar_, gv_sh, gv_ow, gv_bx, gv_raw, gv_st, dC, dRaw, dOp, dUn, dTest, dTruth, dAnd, dOr, dNot, dYes, dIf, dAndV, dOrV, dNotV, dNotT, dChain, dNil, dCons, dTup, dLst, dats, dCB, dNoP, dPart, dSl, dNext, dBreak, dCont, dNever, dDrop, dRet, dRetN, dIfS, dSetG, dPar, dPar3, dAppend, dAppPop, dSetIx, dExt, dAug, dSet0, dSAdd, dSNotIn, dIter_, gi_l, gi_t, gi_b, dRng1, dRng2, dName, dGNil, dGCons, dGTup, dAsg, dFor, dWhile, dCall, dCallR, dArgs_, ga_f, ga_t, argsOf, dLc, wipeE, dListRg, dIndex, dSortSet, dSortSc, dEnum, dZip, dIsi, dIsi2, isaT, φI, φB, φC, φNeg, add_i, add_l, add_t, mul_i, mul_l, φIx, sl_l, sl_t, eq_i, eq_s, eq_l, eq_t, eq_b, eq_n, φIsN, isN_n, isN_b, isN_i, isN_s, isN_l, isN_t, φLen, φList, φTuple, φAbs, φInt, φMax, φIsB, its_l, its_t, rd_sh, rd_nw, rd_br, rp_sh, rp_nw, rp_br, rp_bx, rp_raw, rp_sr, rr_sh, rr_nw, rr_br, ra_sh, ra_br, ra_bx, ra_raw, va_sh, va_nt, va_nf, va_raw, hb_n, hb_sh, hb_bx, hb_raw, hb_br, sh_n, sh_c, tr_n, tr_b, tr_i, tr_l, tr_t, ty_n, ty_b, ty_i, ty_s, ty_l, ty_t, if_ff, if_tt, Env.set, List.getElem?_cons_succ, List.getElem?_cons_zero, List.set_cons_succ, List.set_cons_zero, List.reverse_cons, List.reverse_nil, List.nil_append, List.cons_append, Option.bind_some, ite_true, ite_false]
      refine c_take (by omega) (by omega) (by omega) fun r c1 r0 r1 hc1 => ?_
      try dsimp only [dVar_, gv_sh, gv_ow, gv_bx, gv_raw, gv_st, dC, dRaw, dOp, dUn, dTest, dTruth, dAnd, dOr, dNot, dYes, dIf, dAndV, dOrV, dNotV, dNotT, dChain, dNil, dCons, dTup, dLst, dats, dCB, dNoP, dPart, dSl, dNext, dBreak, dCont, dNever, dDrop, dRet, dRetN, dIfS, dSetG, dPar, dPar3, dAppend, dAppPop, dSetIx, dExt, dAug, dSet0, dSAdd, dSNotIn, dIter_, gi_l, gi_t, gi_b, dRng1, dRng2, dName, dGNil, dGCons, dGTup, dAsg, dFor, dWhile, dCall, dCallR, dArgs_, ga_f, ga_t, argsOf, dLc, wipeE, dListRg, dIndex, dSortSet, dSortSc, dEnum, dZip, dIsi, dIsi2, isaT, φI, φB, φC, φNeg, add_i, add_l, add_t, mul_i, mul_l, φIx, sl_l, sl_t, eq_i, eq_s, eq_l, eq_t, eq_b, eq_n, φIsN, isN_n, isN_b, isN_i, isN_s, isN_l, isN_t, φLen, φList, φTuple, φAbs, φInt, φMax, φIsB, its_l, its_t, rd_sh, rd_nw, rd_br, rp_sh, rp_nw, rp_br, rp_bx, rp_raw, rp_sr, rr_sh, rr_nw, rr_br, ra_sh, ra_br, ra_bx, ra_raw, va_sh, va_nt, va_nf, va_raw, hb_n, hb_sh, hb_bx, hb_raw, hb_br, sh_n, sh_c, tr_n, tr_b, tr_i, tr_l, tr_t, ty_n, ty_b, ty_i, ty_s, ty_l, ty_t, if_ff, if_tt, Env.set, List.getElem?_cons_succ, List.getElem?_cons_zero, List.set_cons_succ, List.set_cons_zero, List.reverse_cons, List.reverse_nil, List.nil_append, List.cons_append, Option.bind_some, ite_true, ite_false]
      refine ⟨_, _, rfl, its_l _, by simp, show 3 ≤ 1000000 by decide, by omega, fun e c2 he hc2 => ?_⟩
      have hv : ∃ v : Int, e = .int v ∧ 1 ≤ v ∧ v ≤ n - fs.length := by
        have : e = .int (n - fs.length) ∨ e = .int (1 + r) := by simpa using he
        rcases this with rfl | rfl
        · exact ⟨_, rfl, by omega, by omega⟩
        · exact ⟨_, rfl, by omega, by omega⟩
      obtain ⟨v, rfl, v1, v2⟩ := hv
      try dsimp only [dVar_, gv_sh, gv_ow, gv_bx, gv_raw, gv_st, dC, dRaw, dOp, dUn, dTest, dTruth, dAnd, dOr, dNot, dYes, dIf, dAndV, dOrV, dNotV, dNotT, dChain, dNil, dCons, dTup, dLst, dats, dCB, dNoP, dPart, dSl, dNext, dBreak, dCont, dNever, dDrop, dRet, dRetN, dIfS, dSetG, dPar, dPar3, dAppend, dAppPop, dSetIx, dExt, dAug, dSet0, dSAdd, dSNotIn, dIter_, gi_l, gi_t, gi_b, dRng1, dRng2, dName, dGNil, dGCons, dGTup, dAsg, dFor, dWhile, dCall, dCallR, dArgs_, ga_f, ga_t, argsOf, dLc, wipeE, dListRg, dIndex, dSortSet, dSortSc, dEnum, dZip, dIsi, dIsi2, isaT, φI, φB, φC, φNeg, add_i, add_l, add_t, mul_i, mul_l, φIx, sl_l, sl_t, eq_i, eq_s, eq_l, eq_t, eq_b, eq_n, φIsN, isN_n, isN_b, isN_i, isN_s, isN_l, isN_t, φLen, φList, φTuple, φAbs, φInt, φMax, φIsB, its_l, its_t, rd_sh, rd_nw, rd_br, rp_sh, rp_nw, rp_br, rp_bx, rp_raw, rp_sr, rr_sh, rr_nw, rr_br, ra_sh, ra_br, ra_bx, ra_raw, va_sh, va_nt, va_nf, va_raw, hb_n, hb_sh, hb_bx, hb_raw, hb_br, sh_n, sh_c, tr_n, tr_b, tr_i, tr_l, tr_t, ty_n, ty_b, ty_i, ty_s, ty_l, ty_t, if_ff, if_tt, Env.set, List.getElem?_cons_succ, List.getElem?_cons_zero, List.set_cons_succ, List.set_cons_zero, List.reverse_cons, List.reverse_nil, List.nil_append, List.cons_append, Option.bind_some, ite_true, ite_false]
      refine mon_law_part _ _ _ _ (fun r c3 hr => ?_) (part v c2 v1 v2 (by omega))
      obtain ⟨ps, rfl, g1, g2, g3, g4⟩ := hr
      try dsimp only [dVar_, gv_sh, gv_ow, gv_bx, gv_raw, gv_st, dC, dRaw, dOp, dUn, dTest, dTruth, dAnd, dOr, dNot, dYes, dIf, dAndV, dOrV, dNotV, dNotT, dChain, dNil, dCons, dTup, dLst, dats, dCB, dNoP, dPart, dSl, dNext, dBreak, dCont, dNever, dDrop, dRet, dRetN, dIfS, dSetG, dPar, dPar3, dAppend, dAppPop, dSetIx, dExt, dAug, dSet0, dSAdd, dSNotIn, dIter_, gi_l, gi_t, gi_b, dRng1, dRng2, dName, dGNil, dGCons, dGTup, dAsg, dFor, dWhile, dCall, dCallR, dArgs_, ga_f, ga_t, argsOf, dLc, wipeE, dListRg, dIndex, dSortSet, dSortSc, dEnum, dZip, dIsi, dIsi2, isaT, φI, φB, φC, φNeg, add_i, add_l, add_t, mul_i, mul_l, φIx, sl_l, sl_t, eq_i, eq_s, eq_l, eq_t, eq_b, eq_n, φIsN, isN_n, isN_b, isN_i, isN_s, isN_l, isN_t, φLen, φList, φTuple, φAbs, φInt, φMax, φIsB, its_l, its_t, rd_sh, rd_nw, rd_br, rp_sh, rp_nw, rp_br, rp_bx, rp_raw, rp_sr, rr_sh, rr_nw, rr_br, ra_sh, ra_br, ra_bx, ra_raw, va_sh, va_nt, va_nf, va_raw, hb_n, hb_sh, hb_bx, hb_raw, hb_br, sh_n, sh_c, tr_n, tr_b, tr_i, tr_l, tr_t, ty_n, ty_b, ty_i, ty_s, ty_l, ty_t, if_ff, if_tt, Env.set, List.getElem?_cons_succ, List.getElem?_cons_zero, List.set_cons_succ, List.set_cons_zero, List.reverse_cons, List.reverse_nil, List.nil_append, List.cons_append, Option.bind_some, ite_true, ite_false]
      refine hD _ ?_
      try dsimp only [dVar_, gv_sh, gv_ow, gv_bx, gv_raw, gv_st, dC, dRaw, dOp, dUn, dTest, dTruth, dAnd, dOr, dNot, dYes, dIf, dAndV, dOrV, dNotV, dNotT, dChain, dNil, dCons, dTup, dLst, dats, dCB, dNoP, dPart, dSl, dNext, dBreak, dCont, dNever, dDrop, dRet, dRetN, dIfS, dSetG, dPar, dPar3, dAppend, dAppPop, dSetIx, dExt, dAug, dSet0, dSAdd, dSNotIn, dIter_, gi_l, gi_t, gi_b, dRng1, dRng2, dName, dGNil, dGCons, dGTup, dAsg, dFor, dWhile, dCall, dCallR, dArgs_, ga_f, ga_t, argsOf, dLc, wipeE, dListRg, dIndex, dSortSet, dSortSc, dEnum, dZip, dIsi, dIsi2, isaT, φI, φB, φC, φNeg, add_i, add_l, add_t, mul_i, mul_l, φIx, sl_l, sl_t, eq_i, eq_s, eq_l, eq_t, eq_b, eq_n, φIsN, isN_n, isN_b, isN_i, isN_s, isN_l, isN_t, φLen, φList, φTuple, φAbs, φInt, φMax, φIsB, its_l, its_t, rd_sh, rd_nw, rd_br, rp_sh, rp_nw, rp_br, rp_bx, rp_raw, rp_sr, rr_sh, rr_nw, rr_br, ra_sh, ra_br, ra_bx, ra_raw, va_sh, va_nt, va_nf, va_raw, hb_n, hb_sh, hb_bx, hb_raw, hb_br, sh_n, sh_c, tr_n, tr_b, tr_i, tr_l, tr_t, ty_n, ty_b, ty_i, ty_s, ty_l, ty_t, if_ff, if_tt, Env.set, List.getElem?_cons_succ, List.getElem?_cons_zero, List.set_cons_succ, List.set_cons_zero, List.reverse_cons, List.reverse_nil, List.nil_append, List.cons_append, Option.bind_some, ite_true, ite_false]
      refine lc_all PyData.int (fun a => .int ((fs.length : Int) + a)) ps [] (fun x hx K hK => ?_) (by show 0 + _ ≤ _; omega) ?_
      · try dsimp only [dVar_, gv_sh, gv_ow, gv_bx, gv_raw, gv_st, dC, dRaw, dOp, dUn, dTest, dTruth, dAnd, dOr, dNot, dYes, dIf, dAndV, dOrV, dNotV, dNotT, dChain, dNil, dCons, dTup, dLst, dats, dCB, dNoP, dPart, dSl, dNext, dBreak, dCont, dNever, dDrop, dRet, dRetN, dIfS, dSetG, dPar, dPar3, dAppend, dAppPop, dSetIx, dExt, dAug, dSet0, dSAdd, dSNotIn, dIter_, gi_l, gi_t, gi_b, dRng1, dRng2, dName, dGNil, dGCons, dGTup, dAsg, dFor, dWhile, dCall, dCallR, dArgs_, ga_f, ga_t, argsOf, dLc, wipeE, dListRg, dIndex, dSortSet, dSortSc, dEnum, dZip, dIsi, dIsi2, isaT, φI, φB, φC, φNeg, add_i, add_l, add_t, mul_i, mul_l, φIx, sl_l, sl_t, eq_i, eq_s, eq_l, eq_t, eq_b, eq_n, φIsN, isN_n, isN_b, isN_i, isN_s, isN_l, isN_t, φLen, φList, φTuple, φAbs, φInt, φMax, φIsB, its_l, its_t, rd_sh, rd_nw, rd_br, rp_sh, rp_nw, rp_br, rp_bx, rp_raw, rp_sr, rr_sh, rr_nw, rr_br, ra_sh, ra_br, ra_bx, ra_raw, va_sh, va_nt, va_nf, va_raw, hb_n, hb_sh, hb_bx, hb_raw, hb_br, sh_n, sh_c, tr_n, tr_b, tr_i, tr_l, tr_t, ty_n, ty_b, ty_i, ty_s, ty_l, ty_t, if_ff, if_tt, Env.set, List.getElem?_cons_succ, List.getElem?_cons_zero, List.set_cons_succ, List.set_cons_zero, List.reverse_cons, List.reverse_nil, List.nil_append, List.cons_append, Option.bind_some, ite_true, ite_false]
        rw [dI_len]
        exact hK _ _ rfl rfl
      · try dsimp only [dVar_, gv_sh, gv_ow, gv_bx, gv_raw, gv_st, dC, dRaw, dOp, dUn, dTest, dTruth, dAnd, dOr, dNot, dYes, dIf, dAndV, dOrV, dNotV, dNotT, dChain, dNil, dCons, dTup, dLst, dats, dCB, dNoP, dPart, dSl, dNext, dBreak, dCont, dNever, dDrop, dRet, dRetN, dIfS, dSetG, dPar, dPar3, dAppend, dAppPop, dSetIx, dExt, dAug, dSet0, dSAdd, dSNotIn, dIter_, gi_l, gi_t, gi_b, dRng1, dRng2, dName, dGNil, dGCons, dGTup, dAsg, dFor, dWhile, dCall, dCallR, dArgs_, ga_f, ga_t, argsOf, dLc, wipeE, dListRg, dIndex, dSortSet, dSortSc, dEnum, dZip, dIsi, dIsi2, isaT, φI, φB, φC, φNeg, add_i, add_l, add_t, mul_i, mul_l, φIx, sl_l, sl_t, eq_i, eq_s, eq_l, eq_t, eq_b, eq_n, φIsN, isN_n, isN_b, isN_i, isN_s, isN_l, isN_t, φLen, φList, φTuple, φAbs, φInt, φMax, φIsB, its_l, its_t, rd_sh, rd_nw, rd_br, rp_sh, rp_nw, rp_br, rp_bx, rp_raw, rp_sr, rr_sh, rr_nw, rr_br, ra_sh, ra_br, ra_bx, ra_raw, va_sh, va_nt, va_nf, va_raw, hb_n, hb_sh, hb_bx, hb_raw, hb_br, sh_n, sh_c, tr_n, tr_b, tr_i, tr_l, tr_t, ty_n, ty_b, ty_i, ty_s, ty_l, ty_t, if_ff, if_tt, Env.set, List.getElem?_cons_succ, List.getElem?_cons_zero, List.set_cons_succ, List.set_cons_zero, List.reverse_cons, List.reverse_nil, List.nil_append, List.cons_append, Option.bind_some, ite_true, ite_false]
        refine ⟨?_, key ps c3 g1 g2 g3 g4⟩
        show _ ≤ 16777216
        rw [dI_len, List.length_map]; omega
    · exact q fs c y z (by omega) (by rw [show n.toNat = fs.length by omega]; exact lo) (by omega)
theorem m_law_drawn : ∀ args c Q, p_law_drawn args c Q → defF k_law_drawn b_law_drawn args c Q := by
  rintro _ c Q ⟨m, rfl, h1, h2, h3, q⟩
  show b_law_drawn _ ⟨[.bx, .sh (.int m), .un, .un, .un, .un, .un], c⟩
  unfold b_law_drawn
  refine sq_ ?_
  try dsimp only [dVar_, gv_sh, gv_ow, gv_bx, gv_raw, gv_st, dC, dRaw, dOp, dUn, dTest, dTruth, dAnd, dOr, dNot, dYes, dIf, dAndV, dOrV, dNotV, dNotT, dChain, dNil, dCons, dTup, dLst, dats, dCB, dNoP, dPart, dSl, dNext, dBreak, dCont, dNever, dDrop, dRet, dRetN, dIfS, dSetG, dPar, dPar3, dAppend, dAppPop, dSetIx, dExt, dAug, dSet0, dSAdd, dSNotIn, dIter_, gi_l, gi_t, gi_b, dRng1, dRng2, dName, dGNil, dGCons, dGTup, dAsg, dFor, dWhile, dCall, dCallR, dArgs_, ga_f, ga_t, argsOf, dLc, wipeE, dListRg, dIndex, dSortSet, dSortSc, dEnum, dZip, dIsi, dIsi2, isaT, φI, φB, φC, φNeg, add_i, add_l, add_t, mul_i, mul_l, φIx, sl_l, sl_t, eq_i, eq_s, eq_l, eq_t, eq_b, eq_n, φIsN, isN_n, isN_b, isN_i, isN_s, isN_l, isN_t, φLen, φList, φTuple, φAbs, φInt, φMax, φIsB, its_l, its_t, rd_sh, rd_nw, rd_br, rp_sh, rp_nw, rp_br, rp_bx, rp_raw, rp_sr, rr_sh, rr_nw, rr_br, ra_sh, ra_br, ra_bx, ra_raw, va_sh, va_nt, va_nf, va_raw, hb_n, hb_sh, hb_bx, hb_raw, hb_br, sh_n, sh_c, tr_n, tr_b, tr_i, tr_l, tr_t, ty_n, ty_b, ty_i, ty_s, ty_l, ty_t, if_ff, if_tt, Env.set, List.getElem?_cons_succ, List.getElem?_cons_zero, List.set_cons_succ, List.set_cons_zero, List.reverse_cons, List.reverse_nil, List.nil_append, List.cons_append, Option.bind_some, ite_true, ite_false]
  refine c_take h1 (by omega) (by omega) fun r c1 r0 r1 hc1 => ?_
  try dsimp only [dVar_, gv_sh, gv_ow, gv_bx, gv_raw, gv_st, dC, dRaw, dOp, dUn, dTest, dTruth, dAnd, dOr, dNot, dYes, dIf, dAndV, dOrV, dNotV, dNotT, dChain, dNil, dCons, dTup, dLst, dats, dCB, dNoP, dPart, dSl, dNext, dBreak, dCont, dNever, dDrop, dRet, dRetN, dIfS, dSetG, dPar, dPar3, dAppend, dAppPop, dSetIx, dExt, dAug, dSet0, dSAdd, dSNotIn, dIter_, gi_l, gi_t, gi_b, dRng1, dRng2, dName, dGNil, dGCons, dGTup, dAsg, dFor, dWhile, dCall, dCallR, dArgs_, ga_f, ga_t, argsOf, dLc, wipeE, dListRg, dIndex, dSortSet, dSortSc, dEnum, dZip, dIsi, dIsi2, isaT, φI, φB, φC, φNeg, add_i, add_l, add_t, mul_i, mul_l, φIx, sl_l, sl_t, eq_i, eq_s, eq_l, eq_t, eq_b, eq_n, φIsN, isN_n, isN_b, isN_i, isN_s, isN_l, isN_t, φLen, φList, φTuple, φAbs, φInt, φMax, φIsB, its_l, its_t, rd_sh, rd_nw, rd_br, rp_sh, rp_nw, rp_br, rp_bx, rp_raw, rp_sr, rr_sh, rr_nw, rr_br, ra_sh, ra_br, ra_bx, ra_raw, va_sh, va_nt, va_nf, va_raw, hb_n, hb_sh, hb_bx, hb_raw, hb_br, sh_n, sh_c, tr_n, tr_b, tr_i, tr_l, tr_t, ty_n, ty_b, ty_i, ty_s, ty_l, ty_t, if_ff, if_tt, Env.set, List.getElem?_cons_succ, List.getElem?_cons_zero, List.set_cons_succ, List.set_cons_zero, List.reverse_cons, List.reverse_nil, List.nil_append, List.cons_append, Option.bind_some, ite_true, ite_false]
  refine sq_ ?_
  try dsimp only [dVar_, gv_sh, gv_ow, gv_bx, gv_raw, gv_st, dC, dRaw, dOp, dUn, dTest, dTruth, dAnd, dOr, dNot, dYes, dIf, dAndV, dOrV, dNotV, dNotT, dChain, dNil, dCons, dTup, dLst, dats, dCB, dNoP, dPart, dSl, dNext, dBreak, dCont, dNever, dDrop, dRet, dRetN, dIfS, dSetG, dPar, dPar3, dAppend, dAppPop, dSetIx, dExt, dAug, dSet0, dSAdd, dSNotIn, dIter_, gi_l, gi_t, gi_b, dRng1, dRng2, dName, dGNil, dGCons, dGTup, dAsg, dFor, dWhile, dCall, dCallR, dArgs_, ga_f, ga_t, argsOf, dLc, wipeE, dListRg, dIndex, dSortSet, dSortSc, dEnum, dZip, dIsi, dIsi2, isaT, φI, φB, φC, φNeg, add_i, add_l, add_t, mul_i, mul_l, φIx, sl_l, sl_t, eq_i, eq_s, eq_l, eq_t, eq_b, eq_n, φIsN, isN_n, isN_b, isN_i, isN_s, isN_l, isN_t, φLen, φList, φTuple, φAbs, φInt, φMax, φIsB, its_l, its_t, rd_sh, rd_nw, rd_br, rp_sh, rp_nw, rp_br, rp_bx, rp_raw, rp_sr, rr_sh, rr_nw, rr_br, ra_sh, ra_br, ra_bx, ra_raw, va_sh, va_nt, va_nf, va_raw, hb_n, hb_sh, hb_bx, hb_raw, hb_br, sh_n, sh_c, tr_n, tr_b, tr_i, tr_l, tr_t, ty_n, ty_b, ty_i, ty_s, ty_l, ty_t, if_ff, if_tt, Env.set, List.getElem?_cons_succ, List.getElem?_cons_zero, List.set_cons_succ, List.set_cons_zero, List.reverse_cons, List.reverse_nil, List.nil_append, List.cons_append, Option.bind_some, ite_true, ite_false]
  refine ⟨(1 + r).toNat + 1, drawn_loop (fs := []) (by omega) (by omega) rfl _ (1 + r).toNat _ _ c1 (by omega) (by show 0 + _ = _; omega) (fun _ h => nomatch h) (by omega) fun gs c2 y z g1 g2 g3 => ?_⟩
  try dsimp only [dVar_, gv_sh, gv_ow, gv_bx, gv_raw, gv_st, dC, dRaw, dOp, dUn, dTest, dTruth, dAnd, dOr, dNot, dYes, dIf, dAndV, dOrV, dNotV, dNotT, dChain, dNil, dCons, dTup, dLst, dats, dCB, dNoP, dPart, dSl, dNext, dBreak, dCont, dNever, dDrop, dRet, dRetN, dIfS, dSetG, dPar, dPar3, dAppend, dAppPop, dSetIx, dExt, dAug, dSet0, dSAdd, dSNotIn, dIter_, gi_l, gi_t, gi_b, dRng1, dRng2, dName, dGNil, dGCons, dGTup, dAsg, dFor, dWhile, dCall, dCallR, dArgs_, ga_f, ga_t, argsOf, dLc, wipeE, dListRg, dIndex, dSortSet, dSortSc, dEnum, dZip, dIsi, dIsi2, isaT, φI, φB, φC, φNeg, add_i, add_l, add_t, mul_i, mul_l, φIx, sl_l, sl_t, eq_i, eq_s, eq_l, eq_t, eq_b, eq_n, φIsN, isN_n, isN_b, isN_i, isN_s, isN_l, isN_t, φLen, φList, φTuple, φAbs, φInt, φMax, φIsB, its_l, its_t, rd_sh, rd_nw, rd_br, rp_sh, rp_nw, rp_br, rp_bx, rp_raw, rp_sr, rr_sh, rr_nw, rr_br, ra_sh, ra_br, ra_bx, ra_raw, va_sh, va_nt, va_nf, va_raw, hb_n, hb_sh, hb_bx, hb_raw, hb_br, sh_n, sh_c, tr_n, tr_b, tr_i, tr_l, tr_t, ty_n, ty_b, ty_i, ty_s, ty_l, ty_t, if_ff, if_tt, Env.set, List.getElem?_cons_succ, List.getElem?_cons_zero, List.set_cons_succ, List.set_cons_zero, List.reverse_cons, List.reverse_nil, List.nil_append, List.cons_append, Option.bind_some, ite_true, ite_false]
  have hs : Stt gs := ⟨by rw [g1]; exact g2, by omega, by omega⟩
  refine ⟨gs, rfl, hs, by omega, fun ns c3 hn hc3 => ?_⟩
  try dsimp only [dVar_, gv_sh, gv_ow, gv_bx, gv_raw, gv_st, dC, dRaw, dOp, dUn, dTest, dTruth, dAnd, dOr, dNot, dYes, dIf, dAndV, dOrV, dNotV, dNotT, dChain, dNil, dCons, dTup, dLst, dats, dCB, dNoP, dPart, dSl, dNext, dBreak, dCont, dNever, dDrop, dRet, dRetN, dIfS, dSetG, dPar, dPar3, dAppend, dAppPop, dSetIx, dExt, dAug, dSet0, dSAdd, dSNotIn, dIter_, gi_l, gi_t, gi_b, dRng1, dRng2, dName, dGNil, dGCons, dGTup, dAsg, dFor, dWhile, dCall, dCallR, dArgs_, ga_f, ga_t, argsOf, dLc, wipeE, dListRg, dIndex, dSortSet, dSortSc, dEnum, dZip, dIsi, dIsi2, isaT, φI, φB, φC, φNeg, add_i, add_l, add_t, mul_i, mul_l, φIx, sl_l, sl_t, eq_i, eq_s, eq_l, eq_t, eq_b, eq_n, φIsN, isN_n, isN_b, isN_i, isN_s, isN_l, isN_t, φLen, φList, φTuple, φAbs, φInt, φMax, φIsB, its_l, its_t, rd_sh, rd_nw, rd_br, rp_sh, rp_nw, rp_br, rp_bx, rp_raw, rp_sr, rr_sh, rr_nw, rr_br, ra_sh, ra_br, ra_bx, ra_raw, va_sh, va_nt, va_nf, va_raw, hb_n, hb_sh, hb_bx, hb_raw, hb_br, sh_n, sh_c, tr_n, tr_b, tr_i, tr_l, tr_t, ty_n, ty_b, ty_i, ty_s, ty_l, ty_t, if_ff, if_tt, Env.set, List.getElem?_cons_succ, List.getElem?_cons_zero, List.set_cons_succ, List.set_cons_zero, List.reverse_cons, List.reverse_nil, List.nil_append, List.cons_append, Option.bind_some, ite_true, ite_false]
  have := hn.1
  exact q ns c3 (hn.stt (by omega) (by omega)) (by omega) (by omega)
/-! ### _law_met -/
/-- _law_met: _law_here, _law_who, _law_found -/
def b_law_met : DTS := (dSeq (dSetG true 2 (dLst dNil))
  (dSeq (dWhile (dTest (dOp (φIn true) (dOp φIx (dVar 0) (dVar 1)) (dVar 2))) (dSeq (dSetG false 1 (dOp φIx (dVar 0) (dVar 1)))
  (dAppend 2 (dVar 1))))
  (dRet (dVar 2))))
abbrev k_law_met : Nat := 1
def p_law_met : DSp := fun args c Q => ∃ (d : PyData) (ns : List Int) (p : Int), args = [.sh d, .sh (.int p)] ∧ PyData.its d = some (dI ns) ∧ Stt ns ∧ Per ns p ∧ Q (.nw (dI (routeF ns (gt ns p)))) c
theorem mon_law_met : MonF p_law_met := fun args c A B h ⟨d, ns, p, e, h1, h2, h3, q⟩ => ⟨d, ns, p, e, h1, h2, h3, h _ _ q⟩
theorem met_loop {d : PyData} {ns : List Int} {Δ : DEnds} {c : Nat} (hd : PyData.its d = some (dI ns)) (hs : Stt ns) : ∀ (k : Nat) (acc : List Int) (z : Int), Per ns z → acc.Nodup → Low ns.length acc → ns.length < k + acc.length →
    (∀ y, Δ.nx ⟨[.sh d, y, .ow (dI (routeG ns k acc (gt ns z)))], c⟩) →
    whileN (dTest (dOp (φIn true) (dOp φIx (dVar 0) (dVar 1)) (dVar 2))) (dSeq (dSetG false 1 (dOp φIx (dVar 0) (dVar 1))) (dAppend 2 (dVar 1))) Δ (k + 1) ⟨[.sh d, .sh (.int z), .ow (dI acc)], c⟩
  | 0, acc, z, _, nd, la, hk, _ => by
    have := low_len ns.length acc nd la
    omega
  | k + 1, acc, z, hz, nd, la, hk, q => by
    unfold whileN
    unfold routeG at q
    have hl := low_len ns.length acc nd la
    have := hs.le
    try dsimp only [dVar_, gv_sh, gv_ow, gv_bx, gv_raw, gv_st, dC, dRaw, dOp, dUn, dTest, dTruth, dAnd, dOr, dNot, dYes, dIf, dAndV, dOrV, dNotV, dNotT, dChain, dNil, dCons, dTup, dLst, dats, dCB, dNoP, dPart, dSl, dNext, dBreak, dCont, dNever, dDrop, dRet, dRetN, dIfS, dSetG, dPar, dPar3, dAppend, dAppPop, dSetIx, dExt, dAug, dSet0, dSAdd, dSNotIn, dIter_, gi_l, gi_t, gi_b, dRng1, dRng2, dName, dGNil, dGCons, dGTup, dAsg, dFor, dWhile, dCall, dCallR, dArgs_, ga_f, ga_t, argsOf, dLc, wipeE, dListRg, dIndex, dSortSet, dSortSc, dEnum, dZip, dIsi, dIsi2, isaT, φI, φB, φC, φNeg, add_i, add_l, add_t, mul_i, mul_l, φIx, sl_l, sl_t, eq_i, eq_s, eq_l, eq_t, eq_b, eq_n, φIsN, isN_n, isN_b, isN_i, isN_s, isN_l, isN_t, φLen, φList, φTuple, φAbs, φInt, φMax, φIsB, its_l, its_t, rd_sh, rd_nw, rd_br, rp_sh, rp_nw, rp_br, rp_bx, rp_raw, rp_sr, rr_sh, rr_nw, rr_br, ra_sh, ra_br, ra_bx, ra_raw, va_sh, va_nt, va_nf, va_raw, hb_n, hb_sh, hb_bx, hb_raw, hb_br, sh_n, sh_c, tr_n, tr_b, tr_i, tr_l, tr_t, ty_n, ty_b, ty_i, ty_s, ty_l, ty_t, if_ff, if_tt, Env.set, List.getElem?_cons_succ, List.getElem?_cons_zero, List.set_cons_succ, List.set_cons_zero, List.reverse_cons, List.reverse_nil, List.nil_append, List.cons_append, Option.bind_some, ite_true, ite_false]
    rw [hd]
    refine ⟨_, atI_dI hz.1 hz.2, ?_⟩
    refine φIn_dI (its_l _) ?_
    try dsimp only [dVar_, gv_sh, gv_ow, gv_bx, gv_raw, gv_st, dC, dRaw, dOp, dUn, dTest, dTruth, dAnd, dOr, dNot, dYes, dIf, dAndV, dOrV, dNotV, dNotT, dChain, dNil, dCons, dTup, dLst, dats, dCB, dNoP, dPart, dSl, dNext, dBreak, dCont, dNever, dDrop, dRet, dRetN, dIfS, dSetG, dPar, dPar3, dAppend, dAppPop, dSetIx, dExt, dAug, dSet0, dSAdd, dSNotIn, dIter_, gi_l, gi_t, gi_b, dRng1, dRng2, dName, dGNil, dGCons, dGTup, dAsg, dFor, dWhile, dCall, dCallR, dArgs_, ga_f, ga_t, argsOf, dLc, wipeE, dListRg, dIndex, dSortSet, dSortSc, dEnum, dZip, dIsi, dIsi2, isaT, φI, φB, φC, φNeg, add_i, add_l, add_t, mul_i, mul_l, φIx, sl_l, sl_t, eq_i, eq_s, eq_l, eq_t, eq_b, eq_n, φIsN, isN_n, isN_b, isN_i, isN_s, isN_l, isN_t, φLen, φList, φTuple, φAbs, φInt, φMax, φIsB, its_l, its_t, rd_sh, rd_nw, rd_br, rp_sh, rp_nw, rp_br, rp_bx, rp_raw, rp_sr, rr_sh, rr_nw, rr_br, ra_sh, ra_br, ra_bx, ra_raw, va_sh, va_nt, va_nf, va_raw, hb_n, hb_sh, hb_bx, hb_raw, hb_br, sh_n, sh_c, tr_n, tr_b, tr_i, tr_l, tr_t, ty_n, ty_b, ty_i, ty_s, ty_l, ty_t, if_ff, if_tt, Env.set, List.getElem?_cons_succ, List.getElem?_cons_zero, List.set_cons_succ, List.set_cons_zero, List.reverse_cons, List.reverse_nil, List.nil_append, List.cons_append, Option.bind_some, ite_true, ite_false]
    refine in_2 (fun hm => ?_) fun hm => ?_
    · rw [if_neg hm] at q
      refine sq_ ?_
      try dsimp only [dVar_, gv_sh, gv_ow, gv_bx, gv_raw, gv_st, dC, dRaw, dOp, dUn, dTest, dTruth, dAnd, dOr, dNot, dYes, dIf, dAndV, dOrV, dNotV, dNotT, dChain, dNil, dCons, dTup, dLst, dats, dCB, dNoP, dPart, dSl, dNext, dBreak, dCont, dNever, dDrop, dRet, dRetN, dIfS, dSetG, dPar, dPar3, dAppend, dAppPop, dSetIx, dExt, dAug, dSet0, dSAdd, dSNotIn, dIter_, gi_l, gi_t, gi_b, dRng1, dRng2, dName, dGNil, dGCons, dGTup, dAsg, dFor, dWhile, dCall, dCallR, dArgs_, ga_f, ga_t, argsOf, dLc, wipeE, dListRg, dIndex, dSortSet, dSortSc, dEnum, dZip, dIsi, dIsi2, isaT, φI, φB, φC, φNeg, add_i, add_l, add_t, mul_i, mul_l, φIx, sl_l, sl_t, eq_i, eq_s, eq_l, eq_t, eq_b, eq_n, φIsN, isN_n, isN_b, isN_i, isN_s, isN_l, isN_t, φLen, φList, φTuple, φAbs, φInt, φMax, φIsB, its_l, its_t, rd_sh, rd_nw, rd_br, rp_sh, rp_nw, rp_br, rp_bx, rp_raw, rp_sr, rr_sh, rr_nw, rr_br, ra_sh, ra_br, ra_bx, ra_raw, va_sh, va_nt, va_nf, va_raw, hb_n, hb_sh, hb_bx, hb_raw, hb_br, sh_n, sh_c, tr_n, tr_b, tr_i, tr_l, tr_t, ty_n, ty_b, ty_i, ty_s, ty_l, ty_t, if_ff, if_tt, Env.set, List.getElem?_cons_succ, List.getElem?_cons_zero, List.set_cons_succ, List.set_cons_zero, List.reverse_cons, List.reverse_nil, List.nil_append, List.cons_append, Option.bind_some, ite_true, ite_false]
      rw [hd]
      refine ⟨_, atI_dI hz.1 hz.2, ?_⟩
      refine ⟨show (dI acc).length < 16777216 by rw [dI_len]; omega, ?_⟩
      rw [dI_snoc]
      refine met_loop hd hs k (acc ++ [gt ns z]) (gt ns z) (hs.gt hz) (Nodup.snoc nd hm) ?_ (by rw [List.length_append]; show _ < k + (acc.length + 1); omega) q
      intro y hy
      rcases List.mem_append.mp hy with h | h
      · exact la y h
      · rw [List.mem_singleton.mp h]; exact hs.gt hz
    · rw [if_pos hm] at q
      exact q _
theorem m_law_met : ∀ args c Q, p_law_met args c Q → defF k_law_met b_law_met args c Q := by
  rintro _ c Q ⟨d, ns, p, rfl, h1, h2, h3, q⟩
  show b_law_met _ ⟨[.sh d, .sh (.int p), .un], c⟩
  unfold b_law_met
  refine sq_ ?_
  try dsimp only [dVar_, gv_sh, gv_ow, gv_bx, gv_raw, gv_st, dC, dRaw, dOp, dUn, dTest, dTruth, dAnd, dOr, dNot, dYes, dIf, dAndV, dOrV, dNotV, dNotT, dChain, dNil, dCons, dTup, dLst, dats, dCB, dNoP, dPart, dSl, dNext, dBreak, dCont, dNever, dDrop, dRet, dRetN, dIfS, dSetG, dPar, dPar3, dAppend, dAppPop, dSetIx, dExt, dAug, dSet0, dSAdd, dSNotIn, dIter_, gi_l, gi_t, gi_b, dRng1, dRng2, dName, dGNil, dGCons, dGTup, dAsg, dFor, dWhile, dCall, dCallR, dArgs_, ga_f, ga_t, argsOf, dLc, wipeE, dListRg, dIndex, dSortSet, dSortSc, dEnum, dZip, dIsi, dIsi2, isaT, φI, φB, φC, φNeg, add_i, add_l, add_t, mul_i, mul_l, φIx, sl_l, sl_t, eq_i, eq_s, eq_l, eq_t, eq_b, eq_n, φIsN, isN_n, isN_b, isN_i, isN_s, isN_l, isN_t, φLen, φList, φTuple, φAbs, φInt, φMax, φIsB, its_l, its_t, rd_sh, rd_nw, rd_br, rp_sh, rp_nw, rp_br, rp_bx, rp_raw, rp_sr, rr_sh, rr_nw, rr_br, ra_sh, ra_br, ra_bx, ra_raw, va_sh, va_nt, va_nf, va_raw, hb_n, hb_sh, hb_bx, hb_raw, hb_br, sh_n, sh_c, tr_n, tr_b, tr_i, tr_l, tr_t, ty_n, ty_b, ty_i, ty_s, ty_l, ty_t, if_ff, if_tt, Env.set, List.getElem?_cons_succ, List.getElem?_cons_zero, List.set_cons_succ, List.set_cons_zero, List.reverse_cons, List.reverse_nil, List.nil_append, List.cons_append, Option.bind_some, ite_true, ite_false]
  refine sq_ ?_
  try dsimp only [dVar_, gv_sh, gv_ow, gv_bx, gv_raw, gv_st, dC, dRaw, dOp, dUn, dTest, dTruth, dAnd, dOr, dNot, dYes, dIf, dAndV, dOrV, dNotV, dNotT, dChain, dNil, dCons, dTup, dLst, dats, dCB, dNoP, dPart, dSl, dNext, dBreak, dCont, dNever, dDrop, dRet, dRetN, dIfS, dSetG, dPar, dPar3, dAppend, dAppPop, dSetIx, dExt, dAug, dSet0, dSAdd, dSNotIn, dIter_, gi_l, gi_t, gi_b, dRng1, dRng2, dName, dGNil, dGCons, dGTup, dAsg, dFor, dWhile, dCall, dCallR, dArgs_, ga_f, ga_t, argsOf, dLc, wipeE, dListRg, dIndex, dSortSet, dSortSc, dEnum, dZip, dIsi, dIsi2, isaT, φI, φB, φC, φNeg, add_i, add_l, add_t, mul_i, mul_l, φIx, sl_l, sl_t, eq_i, eq_s, eq_l, eq_t, eq_b, eq_n, φIsN, isN_n, isN_b, isN_i, isN_s, isN_l, isN_t, φLen, φList, φTuple, φAbs, φInt, φMax, φIsB, its_l, its_t, rd_sh, rd_nw, rd_br, rp_sh, rp_nw, rp_br, rp_bx, rp_raw, rp_sr, rr_sh, rr_nw, rr_br, ra_sh, ra_br, ra_bx, ra_raw, va_sh, va_nt, va_nf, va_raw, hb_n, hb_sh, hb_bx, hb_raw, hb_br, sh_n, sh_c, tr_n, tr_b, tr_i, tr_l, tr_t, ty_n, ty_b, ty_i, ty_s, ty_l, ty_t, if_ff, if_tt, Env.set, List.getElem?_cons_succ, List.getElem?_cons_zero, List.set_cons_succ, List.set_cons_zero, List.reverse_cons, List.reverse_nil, List.nil_append, List.cons_append, Option.bind_some, ite_true, ite_false]
  refine ⟨ns.length + 1 + 1, met_loop h1 h2 (ns.length + 1) [] p h3 List.nodup_nil (fun _ h => nomatch h) (by show _ < _ + 1 + 0; omega) fun y => ?_⟩
  try dsimp only [dVar_, gv_sh, gv_ow, gv_bx, gv_raw, gv_st, dC, dRaw, dOp, dUn, dTest, dTruth, dAnd, dOr, dNot, dYes, dIf, dAndV, dOrV, dNotV, dNotT, dChain, dNil, dCons, dTup, dLst, dats, dCB, dNoP, dPart, dSl, dNext, dBreak, dCont, dNever, dDrop, dRet, dRetN, dIfS, dSetG, dPar, dPar3, dAppend, dAppPop, dSetIx, dExt, dAug, dSet0, dSAdd, dSNotIn, dIter_, gi_l, gi_t, gi_b, dRng1, dRng2, dName, dGNil, dGCons, dGTup, dAsg, dFor, dWhile, dCall, dCallR, dArgs_, ga_f, ga_t, argsOf, dLc, wipeE, dListRg, dIndex, dSortSet, dSortSc, dEnum, dZip, dIsi, dIsi2, isaT, φI, φB, φC, φNeg, add_i, add_l, add_t, mul_i, mul_l, φIx, sl_l, sl_t, eq_i, eq_s, eq_l, eq_t, eq_b, eq_n, φIsN, isN_n, isN_b, isN_i, isN_s, isN_l, isN_t, φLen, φList, φTuple, φAbs, φInt, φMax, φIsB, its_l, its_t, rd_sh, rd_nw, rd_br, rp_sh, rp_nw, rp_br, rp_bx, rp_raw, rp_sr, rr_sh, rr_nw, rr_br, ra_sh, ra_br, ra_bx, ra_raw, va_sh, va_nt, va_nf, va_raw, hb_n, hb_sh, hb_bx, hb_raw, hb_br, sh_n, sh_c, tr_n, tr_b, tr_i, tr_l, tr_t, ty_n, ty_b, ty_i, ty_s, ty_l, ty_t, if_ff, if_tt, Env.set, List.getElem?_cons_succ, List.getElem?_cons_zero, List.set_cons_succ, List.set_cons_zero, List.reverse_cons, List.reverse_nil, List.nil_append, List.cons_append, Option.bind_some, ite_true, ite_false]
  exact q
theorem c_met {d : PyData} {ns : List Int} {p : Int} {c : Nat} {Q : R → Nat → Prop} (h1 : PyData.its d = some (dI ns)) (h2 : Stt ns) (hp : Per ns p) (q : Q (.nw (dI (routeF ns (gt ns p)))) c) : p_law_met [.sh d, .sh (.int p)] c Q := ⟨d, ns, p, rfl, h1, h2, hp, q⟩
/-! ### _law_ring, _law_rings -/
/-- _law_ring: _law_here, _law_who, _law_lap, _law_at -/
def b_law_ring : DTS := (dSeq (dSetG false 2 (dCall p_law_met (dCons (dVar 0) (dCons (dOp φIx (dCall p_law_met (dCons (dVar 0) (dCons (dVar 1) dNil))) (dUn φNeg (dC (.int 1)))) dNil))))
  (dSeq (dSetG false 3 (dIndex (dVar 2) (dCB φMin (dCons (dVar 2) dNil))))
  (dRet (dCB φTuple (dCons (dOp φAdd (dSl φSl (dVar 2) (dPart (dVar 3)) dNoP) (dSl φSl (dVar 2) dNoP (dPart (dVar 3)))) dNil)))))
abbrev k_law_ring : Nat := 2
def p_law_ring : DSp := p_ring_of
theorem mon_law_ring : MonF p_law_ring := mon_ring_of
/-- the last one of a way is on the ring: the way from there is the ring, turned -/
theorem last_ring {ns : List Int} (hs : Stt ns) {p l : Int} (hp : Per ns p) (hl : (routeF ns (gt ns p)).getLast? = some l) : Per ns l ∧ turnF (routeF ns (gt ns l)) = ringF ns p := by
  have hq := hs.gt hp
  obtain ⟨L, e, nd, hin⟩ := hs.rt hq
  have rt := hs.rt hq
  rw [e] at rt
  obtain ⟨M, z, c, hL, hz, cy, er, rz⟩ := lap_of hs.lo hq.1 hq.2 rt
  have el : l = itr ns (gt ns p) M := by
    rw [e, List.getLast?_eq_getElem?, itrs_len, hL, itrs_get (by omega)] at hl
    exact (Option.some.inj hl).symm
  have pl : Per ns l := by rw [el]; exact itr_low hs.lo hq.1 hq.2 M
  refine ⟨pl, ?_⟩
  have e3 : gt ns l = z := by rw [el]; exact hz
  have r2 := hs.rt (hs.gt pl)
  rw [e3] at r2 ⊢
  rw [r2.eq rz, ← er]
  exact ringF_step hs.lo hp.1 hp.2
theorem m_law_ring : ∀ args c Q, p_law_ring args c Q → defF k_law_ring b_law_ring args c Q := by
  rintro _ c Q ⟨d, ns, p, rfl, h1, h2, h3, q⟩
  show b_law_ring _ ⟨[.sh d, .sh (.int p), .un, .un], c⟩
  unfold b_law_ring
  refine sq_ ?_
  try dsimp only [dVar_, gv_sh, gv_ow, gv_bx, gv_raw, gv_st, dC, dRaw, dOp, dUn, dTest, dTruth, dAnd, dOr, dNot, dYes, dIf, dAndV, dOrV, dNotV, dNotT, dChain, dNil, dCons, dTup, dLst, dats, dCB, dNoP, dPart, dSl, dNext, dBreak, dCont, dNever, dDrop, dRet, dRetN, dIfS, dSetG, dPar, dPar3, dAppend, dAppPop, dSetIx, dExt, dAug, dSet0, dSAdd, dSNotIn, dIter_, gi_l, gi_t, gi_b, dRng1, dRng2, dName, dGNil, dGCons, dGTup, dAsg, dFor, dWhile, dCall, dCallR, dArgs_, ga_f, ga_t, argsOf, dLc, wipeE, dListRg, dIndex, dSortSet, dSortSc, dEnum, dZip, dIsi, dIsi2, isaT, φI, φB, φC, φNeg, add_i, add_l, add_t, mul_i, mul_l, φIx, sl_l, sl_t, eq_i, eq_s, eq_l, eq_t, eq_b, eq_n, φIsN, isN_n, isN_b, isN_i, isN_s, isN_l, isN_t, φLen, φList, φTuple, φAbs, φInt, φMax, φIsB, its_l, its_t, rd_sh, rd_nw, rd_br, rp_sh, rp_nw, rp_br, rp_bx, rp_raw, rp_sr, rr_sh, rr_nw, rr_br, ra_sh, ra_br, ra_bx, ra_raw, va_sh, va_nt, va_nf, va_raw, hb_n, hb_sh, hb_bx, hb_raw, hb_br, sh_n, sh_c, tr_n, tr_b, tr_i, tr_l, tr_t, ty_n, ty_b, ty_i, ty_s, ty_l, ty_t, if_ff, if_tt, Env.set, List.getElem?_cons_succ, List.getElem?_cons_zero, List.set_cons_succ, List.set_cons_zero, List.reverse_cons, List.reverse_nil, List.nil_append, List.cons_append, Option.bind_some, ite_true, ite_false]
  refine c_met h1 h2 h3 ?_
  obtain ⟨l, l1, l2, l3, l4⟩ := route_last h2 (h2.gt h3)
  obtain ⟨pl, et⟩ := last_ring h2 h3 l1
  try dsimp only [dVar_, gv_sh, gv_ow, gv_bx, gv_raw, gv_st, dC, dRaw, dOp, dUn, dTest, dTruth, dAnd, dOr, dNot, dYes, dIf, dAndV, dOrV, dNotV, dNotT, dChain, dNil, dCons, dTup, dLst, dats, dCB, dNoP, dPart, dSl, dNext, dBreak, dCont, dNever, dDrop, dRet, dRetN, dIfS, dSetG, dPar, dPar3, dAppend, dAppPop, dSetIx, dExt, dAug, dSet0, dSAdd, dSNotIn, dIter_, gi_l, gi_t, gi_b, dRng1, dRng2, dName, dGNil, dGCons, dGTup, dAsg, dFor, dWhile, dCall, dCallR, dArgs_, ga_f, ga_t, argsOf, dLc, wipeE, dListRg, dIndex, dSortSet, dSortSc, dEnum, dZip, dIsi, dIsi2, isaT, φI, φB, φC, φNeg, add_i, add_l, add_t, mul_i, mul_l, φIx, sl_l, sl_t, eq_i, eq_s, eq_l, eq_t, eq_b, eq_n, φIsN, isN_n, isN_b, isN_i, isN_s, isN_l, isN_t, φLen, φList, φTuple, φAbs, φInt, φMax, φIsB, its_l, its_t, rd_sh, rd_nw, rd_br, rp_sh, rp_nw, rp_br, rp_bx, rp_raw, rp_sr, rr_sh, rr_nw, rr_br, ra_sh, ra_br, ra_bx, ra_raw, va_sh, va_nt, va_nf, va_raw, hb_n, hb_sh, hb_bx, hb_raw, hb_br, sh_n, sh_c, tr_n, tr_b, tr_i, tr_l, tr_t, ty_n, ty_b, ty_i, ty_s, ty_l, ty_t, if_ff, if_tt, Env.set, List.getElem?_cons_succ, List.getElem?_cons_zero, List.set_cons_succ, List.set_cons_zero, List.reverse_cons, List.reverse_nil, List.nil_append, List.cons_append, Option.bind_some, ite_true, ite_false]
  refine ⟨_, atI_last (dI_last l1), ?_⟩
  refine c_met h1 h2 pl ?_
  have rl := route_len h2 (h2.gt pl)
  have hle := h2.le
  generalize routeF ns (gt ns l) = rs at et rl
  have hne : rs ≠ [] := List.length_pos_iff.mp rl.1
  try dsimp only [dVar_, gv_sh, gv_ow, gv_bx, gv_raw, gv_st, dC, dRaw, dOp, dUn, dTest, dTruth, dAnd, dOr, dNot, dYes, dIf, dAndV, dOrV, dNotV, dNotT, dChain, dNil, dCons, dTup, dLst, dats, dCB, dNoP, dPart, dSl, dNext, dBreak, dCont, dNever, dDrop, dRet, dRetN, dIfS, dSetG, dPar, dPar3, dAppend, dAppPop, dSetIx, dExt, dAug, dSet0, dSAdd, dSNotIn, dIter_, gi_l, gi_t, gi_b, dRng1, dRng2, dName, dGNil, dGCons, dGTup, dAsg, dFor, dWhile, dCall, dCallR, dArgs_, ga_f, ga_t, argsOf, dLc, wipeE, dListRg, dIndex, dSortSet, dSortSc, dEnum, dZip, dIsi, dIsi2, isaT, φI, φB, φC, φNeg, add_i, add_l, add_t, mul_i, mul_l, φIx, sl_l, sl_t, eq_i, eq_s, eq_l, eq_t, eq_b, eq_n, φIsN, isN_n, isN_b, isN_i, isN_s, isN_l, isN_t, φLen, φList, φTuple, φAbs, φInt, φMax, φIsB, its_l, its_t, rd_sh, rd_nw, rd_br, rp_sh, rp_nw, rp_br, rp_bx, rp_raw, rp_sr, rr_sh, rr_nw, rr_br, ra_sh, ra_br, ra_bx, ra_raw, va_sh, va_nt, va_nf, va_raw, hb_n, hb_sh, hb_bx, hb_raw, hb_br, sh_n, sh_c, tr_n, tr_b, tr_i, tr_l, tr_t, ty_n, ty_b, ty_i, ty_s, ty_l, ty_t, if_ff, if_tt, Env.set, List.getElem?_cons_succ, List.getElem?_cons_zero, List.set_cons_succ, List.set_cons_zero, List.reverse_cons, List.reverse_nil, List.nil_append, List.cons_append, Option.bind_some, ite_true, ite_false]
  refine sq_ ?_
  try dsimp only [dVar_, gv_sh, gv_ow, gv_bx, gv_raw, gv_st, dC, dRaw, dOp, dUn, dTest, dTruth, dAnd, dOr, dNot, dYes, dIf, dAndV, dOrV, dNotV, dNotT, dChain, dNil, dCons, dTup, dLst, dats, dCB, dNoP, dPart, dSl, dNext, dBreak, dCont, dNever, dDrop, dRet, dRetN, dIfS, dSetG, dPar, dPar3, dAppend, dAppPop, dSetIx, dExt, dAug, dSet0, dSAdd, dSNotIn, dIter_, gi_l, gi_t, gi_b, dRng1, dRng2, dName, dGNil, dGCons, dGTup, dAsg, dFor, dWhile, dCall, dCallR, dArgs_, ga_f, ga_t, argsOf, dLc, wipeE, dListRg, dIndex, dSortSet, dSortSc, dEnum, dZip, dIsi, dIsi2, isaT, φI, φB, φC, φNeg, add_i, add_l, add_t, mul_i, mul_l, φIx, sl_l, sl_t, eq_i, eq_s, eq_l, eq_t, eq_b, eq_n, φIsN, isN_n, isN_b, isN_i, isN_s, isN_l, isN_t, φLen, φList, φTuple, φAbs, φInt, φMax, φIsB, its_l, its_t, rd_sh, rd_nw, rd_br, rp_sh, rp_nw, rp_br, rp_bx, rp_raw, rp_sr, rr_sh, rr_nw, rr_br, ra_sh, ra_br, ra_bx, ra_raw, va_sh, va_nt, va_nf, va_raw, hb_n, hb_sh, hb_bx, hb_raw, hb_br, sh_n, sh_c, tr_n, tr_b, tr_i, tr_l, tr_t, ty_n, ty_b, ty_i, ty_s, ty_l, ty_t, if_ff, if_tt, Env.set, List.getElem?_cons_succ, List.getElem?_cons_zero, List.set_cons_succ, List.set_cons_zero, List.reverse_cons, List.reverse_nil, List.nil_append, List.cons_append, Option.bind_some, ite_true, ite_false]
  refine φMin_dI (its_l _) hne fun m hm => ?_
  try dsimp only [dVar_, gv_sh, gv_ow, gv_bx, gv_raw, gv_st, dC, dRaw, dOp, dUn, dTest, dTruth, dAnd, dOr, dNot, dYes, dIf, dAndV, dOrV, dNotV, dNotT, dChain, dNil, dCons, dTup, dLst, dats, dCB, dNoP, dPart, dSl, dNext, dBreak, dCont, dNever, dDrop, dRet, dRetN, dIfS, dSetG, dPar, dPar3, dAppend, dAppPop, dSetIx, dExt, dAug, dSet0, dSAdd, dSNotIn, dIter_, gi_l, gi_t, gi_b, dRng1, dRng2, dName, dGNil, dGCons, dGTup, dAsg, dFor, dWhile, dCall, dCallR, dArgs_, ga_f, ga_t, argsOf, dLc, wipeE, dListRg, dIndex, dSortSet, dSortSc, dEnum, dZip, dIsi, dIsi2, isaT, φI, φB, φC, φNeg, add_i, add_l, add_t, mul_i, mul_l, φIx, sl_l, sl_t, eq_i, eq_s, eq_l, eq_t, eq_b, eq_n, φIsN, isN_n, isN_b, isN_i, isN_s, isN_l, isN_t, φLen, φList, φTuple, φAbs, φInt, φMax, φIsB, its_l, its_t, rd_sh, rd_nw, rd_br, rp_sh, rp_nw, rp_br, rp_bx, rp_raw, rp_sr, rr_sh, rr_nw, rr_br, ra_sh, ra_br, ra_bx, ra_raw, va_sh, va_nt, va_nf, va_raw, hb_n, hb_sh, hb_bx, hb_raw, hb_br, sh_n, sh_c, tr_n, tr_b, tr_i, tr_l, tr_t, ty_n, ty_b, ty_i, ty_s, ty_l, ty_t, if_ff, if_tt, Env.set, List.getElem?_cons_succ, List.getElem?_cons_zero, List.set_cons_succ, List.set_cons_zero, List.reverse_cons, List.reverse_nil, List.nil_append, List.cons_append, Option.bind_some, ite_true, ite_false]
  rw [intsD_dI]
  refine ⟨hm.1, ?_⟩
  have em : m = minF rs := by
    have := minF_ok hne
    exact Int.le_antisymm (hm.2 _ this.1) (this.2 _ hm.1)
  rw [cutD_from _ _ (Int.natCast_nonneg _), cutD_to _ _ (Int.natCast_nonneg _), Int.toNat_natCast, dI_drop, dI_take, dI_app]
  have er : rs.drop (rs.idxOf m) ++ rs.take (rs.idxOf m) = ringF ns p := by rw [← et, em]; rfl
  refine ⟨?_, ?_⟩
  · show _ ≤ 16777216
    rw [dI_len, dI_len, List.length_drop, List.length_take]; omega
  · rw [er]; exact q
/-- _law_rings: _law_here, _law_who -/
def b_law_rings : DTS := (dRet (dSortSet (dLc (dRng1 (dCons (dCB φLen (dCons (dVar 0) dNil)) dNil)) (dName 1) dYes (dCall p_law_ring (dCons (dVar 0) (dCons (dVar 1) dNil))) [1])))
abbrev k_law_rings : Nat := 1
def p_law_rings : DSp := p_rings
theorem mon_law_rings : MonF p_law_rings := mon_rings
theorem m_law_rings : ∀ args c Q, p_law_rings args c Q → defF k_law_rings b_law_rings args c Q := by
  rintro _ c Q ⟨d, ns, rfl, h1, h2, h3, q⟩
  show b_law_rings _ ⟨[.sh d, .un], c⟩
  unfold b_law_rings
  try dsimp only [dVar_, gv_sh, gv_ow, gv_bx, gv_raw, gv_st, dC, dRaw, dOp, dUn, dTest, dTruth, dAnd, dOr, dNot, dYes, dIf, dAndV, dOrV, dNotV, dNotT, dChain, dNil, dCons, dTup, dLst, dats, dCB, dNoP, dPart, dSl, dNext, dBreak, dCont, dNever, dDrop, dRet, dRetN, dIfS, dSetG, dPar, dPar3, dAppend, dAppPop, dSetIx, dExt, dAug, dSet0, dSAdd, dSNotIn, dIter_, gi_l, gi_t, gi_b, dRng1, dRng2, dName, dGNil, dGCons, dGTup, dAsg, dFor, dWhile, dCall, dCallR, dArgs_, ga_f, ga_t, argsOf, dLc, wipeE, dListRg, dIndex, dSortSet, dSortSc, dEnum, dZip, dIsi, dIsi2, isaT, φI, φB, φC, φNeg, add_i, add_l, add_t, mul_i, mul_l, φIx, sl_l, sl_t, eq_i, eq_s, eq_l, eq_t, eq_b, eq_n, φIsN, isN_n, isN_b, isN_i, isN_s, isN_l, isN_t, φLen, φList, φTuple, φAbs, φInt, φMax, φIsB, its_l, its_t, rd_sh, rd_nw, rd_br, rp_sh, rp_nw, rp_br, rp_bx, rp_raw, rp_sr, rr_sh, rr_nw, rr_br, ra_sh, ra_br, ra_bx, ra_raw, va_sh, va_nt, va_nf, va_raw, hb_n, hb_sh, hb_bx, hb_raw, hb_br, sh_n, sh_c, tr_n, tr_b, tr_i, tr_l, tr_t, ty_n, ty_b, ty_i, ty_s, ty_l, ty_t, if_ff, if_tt, Env.set, List.getElem?_cons_succ, List.getElem?_cons_zero, List.set_cons_succ, List.set_cons_zero, List.reverse_cons, List.reverse_nil, List.nil_append, List.cons_append, Option.bind_some, ite_true, ite_false]
  rw [h1]
  dsimp only
  rw [dI_len]
  refine ⟨h2.rg, ?_⟩
  rw [Int.toNat_natCast, rg0]
  refine lc_all _ (fun i : Nat => .tuple (dI (ringF ns (i : Int)))) (List.range ns.length) [] (fun i hi K hK => ?_) (by rw [List.length_range]; show 0 + _ ≤ _; omega) ?_
  · have hp := per_nat (List.mem_range.mp hi)
    try dsimp only [dVar_, gv_sh, gv_ow, gv_bx, gv_raw, gv_st, dC, dRaw, dOp, dUn, dTest, dTruth, dAnd, dOr, dNot, dYes, dIf, dAndV, dOrV, dNotV, dNotT, dChain, dNil, dCons, dTup, dLst, dats, dCB, dNoP, dPart, dSl, dNext, dBreak, dCont, dNever, dDrop, dRet, dRetN, dIfS, dSetG, dPar, dPar3, dAppend, dAppPop, dSetIx, dExt, dAug, dSet0, dSAdd, dSNotIn, dIter_, gi_l, gi_t, gi_b, dRng1, dRng2, dName, dGNil, dGCons, dGTup, dAsg, dFor, dWhile, dCall, dCallR, dArgs_, ga_f, ga_t, argsOf, dLc, wipeE, dListRg, dIndex, dSortSet, dSortSc, dEnum, dZip, dIsi, dIsi2, isaT, φI, φB, φC, φNeg, add_i, add_l, add_t, mul_i, mul_l, φIx, sl_l, sl_t, eq_i, eq_s, eq_l, eq_t, eq_b, eq_n, φIsN, isN_n, isN_b, isN_i, isN_s, isN_l, isN_t, φLen, φList, φTuple, φAbs, φInt, φMax, φIsB, its_l, its_t, rd_sh, rd_nw, rd_br, rp_sh, rp_nw, rp_br, rp_bx, rp_raw, rp_sr, rr_sh, rr_nw, rr_br, ra_sh, ra_br, ra_bx, ra_raw, va_sh, va_nt, va_nf, va_raw, hb_n, hb_sh, hb_bx, hb_raw, hb_br, sh_n, sh_c, tr_n, tr_b, tr_i, tr_l, tr_t, ty_n, ty_b, ty_i, ty_s, ty_l, ty_t, if_ff, if_tt, Env.set, List.getElem?_cons_succ, List.getElem?_cons_zero, List.set_cons_succ, List.set_cons_zero, List.reverse_cons, List.reverse_nil, List.nil_append, List.cons_append, Option.bind_some, ite_true, ite_false]
    exact c_ring h1 h2 hp (hK _ _ rfl rfl)
  · try dsimp only [dVar_, gv_sh, gv_ow, gv_bx, gv_raw, gv_st, dC, dRaw, dOp, dUn, dTest, dTruth, dAnd, dOr, dNot, dYes, dIf, dAndV, dOrV, dNotV, dNotT, dChain, dNil, dCons, dTup, dLst, dats, dCB, dNoP, dPart, dSl, dNext, dBreak, dCont, dNever, dDrop, dRet, dRetN, dIfS, dSetG, dPar, dPar3, dAppend, dAppPop, dSetIx, dExt, dAug, dSet0, dSAdd, dSNotIn, dIter_, gi_l, gi_t, gi_b, dRng1, dRng2, dName, dGNil, dGCons, dGTup, dAsg, dFor, dWhile, dCall, dCallR, dArgs_, ga_f, ga_t, argsOf, dLc, wipeE, dListRg, dIndex, dSortSet, dSortSc, dEnum, dZip, dIsi, dIsi2, isaT, φI, φB, φC, φNeg, add_i, add_l, add_t, mul_i, mul_l, φIx, sl_l, sl_t, eq_i, eq_s, eq_l, eq_t, eq_b, eq_n, φIsN, isN_n, isN_b, isN_i, isN_s, isN_l, isN_t, φLen, φList, φTuple, φAbs, φInt, φMax, φIsB, its_l, its_t, rd_sh, rd_nw, rd_br, rp_sh, rp_nw, rp_br, rp_bx, rp_raw, rp_sr, rr_sh, rr_nw, rr_br, ra_sh, ra_br, ra_bx, ra_raw, va_sh, va_nt, va_nf, va_raw, hb_n, hb_sh, hb_bx, hb_raw, hb_br, sh_n, sh_c, tr_n, tr_b, tr_i, tr_l, tr_t, ty_n, ty_b, ty_i, ty_s, ty_l, ty_t, if_ff, if_tt, Env.set, List.getElem?_cons_succ, List.getElem?_cons_zero, List.set_cons_succ, List.set_cons_zero, List.reverse_cons, List.reverse_nil, List.nil_append, List.cons_append, Option.bind_some, ite_true, ite_false]
    have e : (List.range ns.length).map (fun i : Nat => PyData.tuple (dI (ringF ns (i : Int)))) = dT (endsF ns) := by
      unfold endsF
      show _ = List.map _ (List.map _ _); rw [List.map_map]; rfl
    rw [e, tupsD_dT _ (fun r hr => by
      obtain ⟨j, hj, rfl⟩ := List.mem_map.mp hr
      exact ring_ne h2 (per_nat (List.mem_range.mp hj)))]
    refine ⟨by unfold endsF; rw [List.length_map, List.length_range]; exact h3, fun RS hR => ?_⟩
    exact q RS (asc_rings hR)
/-! ### _law_same -/
/-- _law_same: _law_found, _law_due, _law_one, _law_two -/
def b_law_same_2 (p_law_same_2 : DSp) : DTS := (dSeq (dIfS (dTruth (dIsi2 "list" "tuple" (dVar 1))) (dSeq (dIfS (dOr (dTest (dOp (φEq true) (dIsi "list" (dVar 0)) (dIsi "list" (dVar 1)))) (dTest (dOp (φEq true) (dIsi "tuple" (dVar 0)) (dIsi "tuple" (dVar 1))))) (dRet (dC (.bool false))) dNext)
  (dRet (dAndV (dOp (φEq false) (dCB φLen (dCons (dVar 0) dNil)) (dCB φLen (dCons (dVar 1) dNil))) (dCB (φAll false) (dCons (dLc (dZip (dCons (dVar 0) (dCons (dVar 1) dNil))) (dGTup 2 (dGCons (dName 2) (dGCons (dName 3) dGNil))) dYes (dCall p_law_same_2 (dCons (dVar 2) (dCons (dVar 3) dNil))) [2, 3]) dNil))))) dNext)
  (dSeq (dIfS (dOr (dTest (dOp (φIsN false) (dVar 1) (dC .none))) (dTruth (dIsi2 "str" "bool" (dVar 1)))) (dRet (dAndV (dOp (φEq false) (dVar 0) (dVar 1)) (dAndV (dOp (φEq false) (dIsi "bool" (dVar 0)) (dIsi "bool" (dVar 1))) (dOp (φEq false) (dOp (φIsN false) (dVar 0) (dC .none)) (dOp (φIsN false) (dVar 1) (dC .none)))))) dNext)
  (dRet (dAndV (dIsi "int" (dVar 0)) (dAndV (dNotV (dIsi "bool" (dVar 0))) (dOp (φEq false) (dVar 0) (dVar 1)))))))
abbrev k_law_same_2 : Nat := 2
def p_law_same_2 (k : Nat) : DSp := p_law_same k
theorem mon_law_same_2 (k : Nat) : MonF (p_law_same_2 k) := mon_law_same k
theorem m_law_same_2 {k : Nat} : ∀ args c Q, p_law_same_2 (k + 1) args c Q → defF k_law_same_2 (b_law_same_2 (p_law_same_2 k)) args c Q := by
  rintro _ c Q ⟨a, _, rfl, rfl, hk, q⟩
  show b_law_same_2 (p_law_same k) _ ⟨[.sh a, .sh a, .un, .un], c⟩
  unfold b_law_same_2
  refine sq_ ?_
  cases a with
  | none =>
    try dsimp only [dVar_, gv_sh, gv_ow, gv_bx, gv_raw, gv_st, dC, dRaw, dOp, dUn, dTest, dTruth, dAnd, dOr, dNot, dYes, dIf, dAndV, dOrV, dNotV, dNotT, dChain, dNil, dCons, dTup, dLst, dats, dCB, dNoP, dPart, dSl, dNext, dBreak, dCont, dNever, dDrop, dRet, dRetN, dIfS, dSetG, dPar, dPar3, dAppend, dAppPop, dSetIx, dExt, dAug, dSet0, dSAdd, dSNotIn, dIter_, gi_l, gi_t, gi_b, dRng1, dRng2, dName, dGNil, dGCons, dGTup, dAsg, dFor, dWhile, dCall, dCallR, dArgs_, ga_f, ga_t, argsOf, dLc, wipeE, dListRg, dIndex, dSortSet, dSortSc, dEnum, dZip, dIsi, dIsi2, isaT, φI, φB, φC, φNeg, add_i, add_l, add_t, mul_i, mul_l, φIx, sl_l, sl_t, eq_i, eq_s, eq_l, eq_t, eq_b, eq_n, φIsN, isN_n, isN_b, isN_i, isN_s, isN_l, isN_t, φLen, φList, φTuple, φAbs, φInt, φMax, φIsB, its_l, its_t, rd_sh, rd_nw, rd_br, rp_sh, rp_nw, rp_br, rp_bx, rp_raw, rp_sr, rr_sh, rr_nw, rr_br, ra_sh, ra_br, ra_bx, ra_raw, va_sh, va_nt, va_nf, va_raw, hb_n, hb_sh, hb_bx, hb_raw, hb_br, sh_n, sh_c, tr_n, tr_b, tr_i, tr_l, tr_t, ty_n, ty_b, ty_i, ty_s, ty_l, ty_t, if_ff, if_tt, Env.set, List.getElem?_cons_succ, List.getElem?_cons_zero, List.set_cons_succ, List.set_cons_zero, List.reverse_cons, List.reverse_nil, List.nil_append, List.cons_append, Option.bind_some, ite_true, ite_false]
    refine if_f (by decide +kernel) ?_
    refine sq_ ?_
    try dsimp only [dVar_, gv_sh, gv_ow, gv_bx, gv_raw, gv_st, dC, dRaw, dOp, dUn, dTest, dTruth, dAnd, dOr, dNot, dYes, dIf, dAndV, dOrV, dNotV, dNotT, dChain, dNil, dCons, dTup, dLst, dats, dCB, dNoP, dPart, dSl, dNext, dBreak, dCont, dNever, dDrop, dRet, dRetN, dIfS, dSetG, dPar, dPar3, dAppend, dAppPop, dSetIx, dExt, dAug, dSet0, dSAdd, dSNotIn, dIter_, gi_l, gi_t, gi_b, dRng1, dRng2, dName, dGNil, dGCons, dGTup, dAsg, dFor, dWhile, dCall, dCallR, dArgs_, ga_f, ga_t, argsOf, dLc, wipeE, dListRg, dIndex, dSortSet, dSortSc, dEnum, dZip, dIsi, dIsi2, isaT, φI, φB, φC, φNeg, add_i, add_l, add_t, mul_i, mul_l, φIx, sl_l, sl_t, eq_i, eq_s, eq_l, eq_t, eq_b, eq_n, φIsN, isN_n, isN_b, isN_i, isN_s, isN_l, isN_t, φLen, φList, φTuple, φAbs, φInt, φMax, φIsB, its_l, its_t, rd_sh, rd_nw, rd_br, rp_sh, rp_nw, rp_br, rp_bx, rp_raw, rp_sr, rr_sh, rr_nw, rr_br, ra_sh, ra_br, ra_bx, ra_raw, va_sh, va_nt, va_nf, va_raw, hb_n, hb_sh, hb_bx, hb_raw, hb_br, sh_n, sh_c, tr_n, tr_b, tr_i, tr_l, tr_t, ty_n, ty_b, ty_i, ty_s, ty_l, ty_t, if_ff, if_tt, Env.set, List.getElem?_cons_succ, List.getElem?_cons_zero, List.set_cons_succ, List.set_cons_zero, List.reverse_cons, List.reverse_nil, List.nil_append, List.cons_append, Option.bind_some, ite_true, ite_false]
    refine ⟨⟨rfl, rfl⟩, ?_⟩
    refine if_t (by rfl) ?_
    refine ⟨⟨rfl, rfl⟩, ?_⟩
    refine if_t (by rfl) ?_
    exact ⟨⟨rfl, rfl⟩, q⟩
  | bool b =>
    try dsimp only [dVar_, gv_sh, gv_ow, gv_bx, gv_raw, gv_st, dC, dRaw, dOp, dUn, dTest, dTruth, dAnd, dOr, dNot, dYes, dIf, dAndV, dOrV, dNotV, dNotT, dChain, dNil, dCons, dTup, dLst, dats, dCB, dNoP, dPart, dSl, dNext, dBreak, dCont, dNever, dDrop, dRet, dRetN, dIfS, dSetG, dPar, dPar3, dAppend, dAppPop, dSetIx, dExt, dAug, dSet0, dSAdd, dSNotIn, dIter_, gi_l, gi_t, gi_b, dRng1, dRng2, dName, dGNil, dGCons, dGTup, dAsg, dFor, dWhile, dCall, dCallR, dArgs_, ga_f, ga_t, argsOf, dLc, wipeE, dListRg, dIndex, dSortSet, dSortSc, dEnum, dZip, dIsi, dIsi2, isaT, φI, φB, φC, φNeg, add_i, add_l, add_t, mul_i, mul_l, φIx, sl_l, sl_t, eq_i, eq_s, eq_l, eq_t, eq_b, eq_n, φIsN, isN_n, isN_b, isN_i, isN_s, isN_l, isN_t, φLen, φList, φTuple, φAbs, φInt, φMax, φIsB, its_l, its_t, rd_sh, rd_nw, rd_br, rp_sh, rp_nw, rp_br, rp_bx, rp_raw, rp_sr, rr_sh, rr_nw, rr_br, ra_sh, ra_br, ra_bx, ra_raw, va_sh, va_nt, va_nf, va_raw, hb_n, hb_sh, hb_bx, hb_raw, hb_br, sh_n, sh_c, tr_n, tr_b, tr_i, tr_l, tr_t, ty_n, ty_b, ty_i, ty_s, ty_l, ty_t, if_ff, if_tt, Env.set, List.getElem?_cons_succ, List.getElem?_cons_zero, List.set_cons_succ, List.set_cons_zero, List.reverse_cons, List.reverse_nil, List.nil_append, List.cons_append, Option.bind_some, ite_true, ite_false]
    refine if_f (by decide +kernel) ?_
    refine sq_ ?_
    try dsimp only [dVar_, gv_sh, gv_ow, gv_bx, gv_raw, gv_st, dC, dRaw, dOp, dUn, dTest, dTruth, dAnd, dOr, dNot, dYes, dIf, dAndV, dOrV, dNotV, dNotT, dChain, dNil, dCons, dTup, dLst, dats, dCB, dNoP, dPart, dSl, dNext, dBreak, dCont, dNever, dDrop, dRet, dRetN, dIfS, dSetG, dPar, dPar3, dAppend, dAppPop, dSetIx, dExt, dAug, dSet0, dSAdd, dSNotIn, dIter_, gi_l, gi_t, gi_b, dRng1, dRng2, dName, dGNil, dGCons, dGTup, dAsg, dFor, dWhile, dCall, dCallR, dArgs_, ga_f, ga_t, argsOf, dLc, wipeE, dListRg, dIndex, dSortSet, dSortSc, dEnum, dZip, dIsi, dIsi2, isaT, φI, φB, φC, φNeg, add_i, add_l, add_t, mul_i, mul_l, φIx, sl_l, sl_t, eq_i, eq_s, eq_l, eq_t, eq_b, eq_n, φIsN, isN_n, isN_b, isN_i, isN_s, isN_l, isN_t, φLen, φList, φTuple, φAbs, φInt, φMax, φIsB, its_l, its_t, rd_sh, rd_nw, rd_br, rp_sh, rp_nw, rp_br, rp_bx, rp_raw, rp_sr, rr_sh, rr_nw, rr_br, ra_sh, ra_br, ra_bx, ra_raw, va_sh, va_nt, va_nf, va_raw, hb_n, hb_sh, hb_bx, hb_raw, hb_br, sh_n, sh_c, tr_n, tr_b, tr_i, tr_l, tr_t, ty_n, ty_b, ty_i, ty_s, ty_l, ty_t, if_ff, if_tt, Env.set, List.getElem?_cons_succ, List.getElem?_cons_zero, List.set_cons_succ, List.set_cons_zero, List.reverse_cons, List.reverse_nil, List.nil_append, List.cons_append, Option.bind_some, ite_true, ite_false]
    refine if_f (by decide +kernel) ?_
    refine if_t (by decide +kernel) ?_
    refine ⟨⟨rfl, rfl⟩, ?_⟩
    rw [eqv_self_b]
    refine if_t (by rfl) ?_
    refine ⟨⟨rfl, rfl⟩, ?_⟩
    refine if_t (by rfl) ?_
    exact ⟨⟨rfl, rfl⟩, q⟩
  | int z =>
    try dsimp only [dVar_, gv_sh, gv_ow, gv_bx, gv_raw, gv_st, dC, dRaw, dOp, dUn, dTest, dTruth, dAnd, dOr, dNot, dYes, dIf, dAndV, dOrV, dNotV, dNotT, dChain, dNil, dCons, dTup, dLst, dats, dCB, dNoP, dPart, dSl, dNext, dBreak, dCont, dNever, dDrop, dRet, dRetN, dIfS, dSetG, dPar, dPar3, dAppend, dAppPop, dSetIx, dExt, dAug, dSet0, dSAdd, dSNotIn, dIter_, gi_l, gi_t, gi_b, dRng1, dRng2, dName, dGNil, dGCons, dGTup, dAsg, dFor, dWhile, dCall, dCallR, dArgs_, ga_f, ga_t, argsOf, dLc, wipeE, dListRg, dIndex, dSortSet, dSortSc, dEnum, dZip, dIsi, dIsi2, isaT, φI, φB, φC, φNeg, add_i, add_l, add_t, mul_i, mul_l, φIx, sl_l, sl_t, eq_i, eq_s, eq_l, eq_t, eq_b, eq_n, φIsN, isN_n, isN_b, isN_i, isN_s, isN_l, isN_t, φLen, φList, φTuple, φAbs, φInt, φMax, φIsB, its_l, its_t, rd_sh, rd_nw, rd_br, rp_sh, rp_nw, rp_br, rp_bx, rp_raw, rp_sr, rr_sh, rr_nw, rr_br, ra_sh, ra_br, ra_bx, ra_raw, va_sh, va_nt, va_nf, va_raw, hb_n, hb_sh, hb_bx, hb_raw, hb_br, sh_n, sh_c, tr_n, tr_b, tr_i, tr_l, tr_t, ty_n, ty_b, ty_i, ty_s, ty_l, ty_t, if_ff, if_tt, Env.set, List.getElem?_cons_succ, List.getElem?_cons_zero, List.set_cons_succ, List.set_cons_zero, List.reverse_cons, List.reverse_nil, List.nil_append, List.cons_append, Option.bind_some, ite_true, ite_false]
    refine if_f (by decide +kernel) ?_
    refine sq_ ?_
    try dsimp only [dVar_, gv_sh, gv_ow, gv_bx, gv_raw, gv_st, dC, dRaw, dOp, dUn, dTest, dTruth, dAnd, dOr, dNot, dYes, dIf, dAndV, dOrV, dNotV, dNotT, dChain, dNil, dCons, dTup, dLst, dats, dCB, dNoP, dPart, dSl, dNext, dBreak, dCont, dNever, dDrop, dRet, dRetN, dIfS, dSetG, dPar, dPar3, dAppend, dAppPop, dSetIx, dExt, dAug, dSet0, dSAdd, dSNotIn, dIter_, gi_l, gi_t, gi_b, dRng1, dRng2, dName, dGNil, dGCons, dGTup, dAsg, dFor, dWhile, dCall, dCallR, dArgs_, ga_f, ga_t, argsOf, dLc, wipeE, dListRg, dIndex, dSortSet, dSortSc, dEnum, dZip, dIsi, dIsi2, isaT, φI, φB, φC, φNeg, add_i, add_l, add_t, mul_i, mul_l, φIx, sl_l, sl_t, eq_i, eq_s, eq_l, eq_t, eq_b, eq_n, φIsN, isN_n, isN_b, isN_i, isN_s, isN_l, isN_t, φLen, φList, φTuple, φAbs, φInt, φMax, φIsB, its_l, its_t, rd_sh, rd_nw, rd_br, rp_sh, rp_nw, rp_br, rp_bx, rp_raw, rp_sr, rr_sh, rr_nw, rr_br, ra_sh, ra_br, ra_bx, ra_raw, va_sh, va_nt, va_nf, va_raw, hb_n, hb_sh, hb_bx, hb_raw, hb_br, sh_n, sh_c, tr_n, tr_b, tr_i, tr_l, tr_t, ty_n, ty_b, ty_i, ty_s, ty_l, ty_t, if_ff, if_tt, Env.set, List.getElem?_cons_succ, List.getElem?_cons_zero, List.set_cons_succ, List.set_cons_zero, List.reverse_cons, List.reverse_nil, List.nil_append, List.cons_append, Option.bind_some, ite_true, ite_false]
    refine if_f (by decide +kernel) ?_
    refine if_f (by decide +kernel) ?_
    refine if_t (by decide +kernel) ?_
    refine if_t (by decide +kernel) ?_
    rw [decide_eq_true rfl]
    exact q
  | str x =>
    try dsimp only [dVar_, gv_sh, gv_ow, gv_bx, gv_raw, gv_st, dC, dRaw, dOp, dUn, dTest, dTruth, dAnd, dOr, dNot, dYes, dIf, dAndV, dOrV, dNotV, dNotT, dChain, dNil, dCons, dTup, dLst, dats, dCB, dNoP, dPart, dSl, dNext, dBreak, dCont, dNever, dDrop, dRet, dRetN, dIfS, dSetG, dPar, dPar3, dAppend, dAppPop, dSetIx, dExt, dAug, dSet0, dSAdd, dSNotIn, dIter_, gi_l, gi_t, gi_b, dRng1, dRng2, dName, dGNil, dGCons, dGTup, dAsg, dFor, dWhile, dCall, dCallR, dArgs_, ga_f, ga_t, argsOf, dLc, wipeE, dListRg, dIndex, dSortSet, dSortSc, dEnum, dZip, dIsi, dIsi2, isaT, φI, φB, φC, φNeg, add_i, add_l, add_t, mul_i, mul_l, φIx, sl_l, sl_t, eq_i, eq_s, eq_l, eq_t, eq_b, eq_n, φIsN, isN_n, isN_b, isN_i, isN_s, isN_l, isN_t, φLen, φList, φTuple, φAbs, φInt, φMax, φIsB, its_l, its_t, rd_sh, rd_nw, rd_br, rp_sh, rp_nw, rp_br, rp_bx, rp_raw, rp_sr, rr_sh, rr_nw, rr_br, ra_sh, ra_br, ra_bx, ra_raw, va_sh, va_nt, va_nf, va_raw, hb_n, hb_sh, hb_bx, hb_raw, hb_br, sh_n, sh_c, tr_n, tr_b, tr_i, tr_l, tr_t, ty_n, ty_b, ty_i, ty_s, ty_l, ty_t, if_ff, if_tt, Env.set, List.getElem?_cons_succ, List.getElem?_cons_zero, List.set_cons_succ, List.set_cons_zero, List.reverse_cons, List.reverse_nil, List.nil_append, List.cons_append, Option.bind_some, ite_true, ite_false]
    refine if_f (by decide +kernel) ?_
    refine sq_ ?_
    try dsimp only [dVar_, gv_sh, gv_ow, gv_bx, gv_raw, gv_st, dC, dRaw, dOp, dUn, dTest, dTruth, dAnd, dOr, dNot, dYes, dIf, dAndV, dOrV, dNotV, dNotT, dChain, dNil, dCons, dTup, dLst, dats, dCB, dNoP, dPart, dSl, dNext, dBreak, dCont, dNever, dDrop, dRet, dRetN, dIfS, dSetG, dPar, dPar3, dAppend, dAppPop, dSetIx, dExt, dAug, dSet0, dSAdd, dSNotIn, dIter_, gi_l, gi_t, gi_b, dRng1, dRng2, dName, dGNil, dGCons, dGTup, dAsg, dFor, dWhile, dCall, dCallR, dArgs_, ga_f, ga_t, argsOf, dLc, wipeE, dListRg, dIndex, dSortSet, dSortSc, dEnum, dZip, dIsi, dIsi2, isaT, φI, φB, φC, φNeg, add_i, add_l, add_t, mul_i, mul_l, φIx, sl_l, sl_t, eq_i, eq_s, eq_l, eq_t, eq_b, eq_n, φIsN, isN_n, isN_b, isN_i, isN_s, isN_l, isN_t, φLen, φList, φTuple, φAbs, φInt, φMax, φIsB, its_l, its_t, rd_sh, rd_nw, rd_br, rp_sh, rp_nw, rp_br, rp_bx, rp_raw, rp_sr, rr_sh, rr_nw, rr_br, ra_sh, ra_br, ra_bx, ra_raw, va_sh, va_nt, va_nf, va_raw, hb_n, hb_sh, hb_bx, hb_raw, hb_br, sh_n, sh_c, tr_n, tr_b, tr_i, tr_l, tr_t, ty_n, ty_b, ty_i, ty_s, ty_l, ty_t, if_ff, if_tt, Env.set, List.getElem?_cons_succ, List.getElem?_cons_zero, List.set_cons_succ, List.set_cons_zero, List.reverse_cons, List.reverse_nil, List.nil_append, List.cons_append, Option.bind_some, ite_true, ite_false]
    refine if_f (by decide +kernel) ?_
    refine if_t (by decide +kernel) ?_
    refine if_t (decide_eq_true rfl) ?_
    refine ⟨⟨rfl, rfl⟩, ?_⟩
    refine if_t (by rfl) ?_
    exact ⟨⟨rfl, rfl⟩, q⟩
  | list ds =>
    obtain ⟨h1, h2⟩ := dep_list hk
    try dsimp only [dVar_, gv_sh, gv_ow, gv_bx, gv_raw, gv_st, dC, dRaw, dOp, dUn, dTest, dTruth, dAnd, dOr, dNot, dYes, dIf, dAndV, dOrV, dNotV, dNotT, dChain, dNil, dCons, dTup, dLst, dats, dCB, dNoP, dPart, dSl, dNext, dBreak, dCont, dNever, dDrop, dRet, dRetN, dIfS, dSetG, dPar, dPar3, dAppend, dAppPop, dSetIx, dExt, dAug, dSet0, dSAdd, dSNotIn, dIter_, gi_l, gi_t, gi_b, dRng1, dRng2, dName, dGNil, dGCons, dGTup, dAsg, dFor, dWhile, dCall, dCallR, dArgs_, ga_f, ga_t, argsOf, dLc, wipeE, dListRg, dIndex, dSortSet, dSortSc, dEnum, dZip, dIsi, dIsi2, isaT, φI, φB, φC, φNeg, add_i, add_l, add_t, mul_i, mul_l, φIx, sl_l, sl_t, eq_i, eq_s, eq_l, eq_t, eq_b, eq_n, φIsN, isN_n, isN_b, isN_i, isN_s, isN_l, isN_t, φLen, φList, φTuple, φAbs, φInt, φMax, φIsB, its_l, its_t, rd_sh, rd_nw, rd_br, rp_sh, rp_nw, rp_br, rp_bx, rp_raw, rp_sr, rr_sh, rr_nw, rr_br, ra_sh, ra_br, ra_bx, ra_raw, va_sh, va_nt, va_nf, va_raw, hb_n, hb_sh, hb_bx, hb_raw, hb_br, sh_n, sh_c, tr_n, tr_b, tr_i, tr_l, tr_t, ty_n, ty_b, ty_i, ty_s, ty_l, ty_t, if_ff, if_tt, Env.set, List.getElem?_cons_succ, List.getElem?_cons_zero, List.set_cons_succ, List.set_cons_zero, List.reverse_cons, List.reverse_nil, List.nil_append, List.cons_append, Option.bind_some, ite_true, ite_false]
    refine if_t (by decide +kernel) ?_
    refine sq_ ?_
    try dsimp only [dVar_, gv_sh, gv_ow, gv_bx, gv_raw, gv_st, dC, dRaw, dOp, dUn, dTest, dTruth, dAnd, dOr, dNot, dYes, dIf, dAndV, dOrV, dNotV, dNotT, dChain, dNil, dCons, dTup, dLst, dats, dCB, dNoP, dPart, dSl, dNext, dBreak, dCont, dNever, dDrop, dRet, dRetN, dIfS, dSetG, dPar, dPar3, dAppend, dAppPop, dSetIx, dExt, dAug, dSet0, dSAdd, dSNotIn, dIter_, gi_l, gi_t, gi_b, dRng1, dRng2, dName, dGNil, dGCons, dGTup, dAsg, dFor, dWhile, dCall, dCallR, dArgs_, ga_f, ga_t, argsOf, dLc, wipeE, dListRg, dIndex, dSortSet, dSortSc, dEnum, dZip, dIsi, dIsi2, isaT, φI, φB, φC, φNeg, add_i, add_l, add_t, mul_i, mul_l, φIx, sl_l, sl_t, eq_i, eq_s, eq_l, eq_t, eq_b, eq_n, φIsN, isN_n, isN_b, isN_i, isN_s, isN_l, isN_t, φLen, φList, φTuple, φAbs, φInt, φMax, φIsB, its_l, its_t, rd_sh, rd_nw, rd_br, rp_sh, rp_nw, rp_br, rp_bx, rp_raw, rp_sr, rr_sh, rr_nw, rr_br, ra_sh, ra_br, ra_bx, ra_raw, va_sh, va_nt, va_nf, va_raw, hb_n, hb_sh, hb_bx, hb_raw, hb_br, sh_n, sh_c, tr_n, tr_b, tr_i, tr_l, tr_t, ty_n, ty_b, ty_i, ty_s, ty_l, ty_t, if_ff, if_tt, Env.set, List.getElem?_cons_succ, List.getElem?_cons_zero, List.set_cons_succ, List.set_cons_zero, List.reverse_cons, List.reverse_nil, List.nil_append, List.cons_append, Option.bind_some, ite_true, ite_false]
    refine ⟨⟨rfl, rfl⟩, ?_⟩
    refine if_f (by rfl) ?_
    refine ⟨⟨rfl, rfl⟩, ?_⟩
    refine if_f (by rfl) ?_
    refine if_t (decide_eq_true rfl) ?_
    refine same_seq h2 (by omega) ⟨_, _, rfl⟩ ?_
    try dsimp only [dVar_, gv_sh, gv_ow, gv_bx, gv_raw, gv_st, dC, dRaw, dOp, dUn, dTest, dTruth, dAnd, dOr, dNot, dYes, dIf, dAndV, dOrV, dNotV, dNotT, dChain, dNil, dCons, dTup, dLst, dats, dCB, dNoP, dPart, dSl, dNext, dBreak, dCont, dNever, dDrop, dRet, dRetN, dIfS, dSetG, dPar, dPar3, dAppend, dAppPop, dSetIx, dExt, dAug, dSet0, dSAdd, dSNotIn, dIter_, gi_l, gi_t, gi_b, dRng1, dRng2, dName, dGNil, dGCons, dGTup, dAsg, dFor, dWhile, dCall, dCallR, dArgs_, ga_f, ga_t, argsOf, dLc, wipeE, dListRg, dIndex, dSortSet, dSortSc, dEnum, dZip, dIsi, dIsi2, isaT, φI, φB, φC, φNeg, add_i, add_l, add_t, mul_i, mul_l, φIx, sl_l, sl_t, eq_i, eq_s, eq_l, eq_t, eq_b, eq_n, φIsN, isN_n, isN_b, isN_i, isN_s, isN_l, isN_t, φLen, φList, φTuple, φAbs, φInt, φMax, φIsB, its_l, its_t, rd_sh, rd_nw, rd_br, rp_sh, rp_nw, rp_br, rp_bx, rp_raw, rp_sr, rr_sh, rr_nw, rr_br, ra_sh, ra_br, ra_bx, ra_raw, va_sh, va_nt, va_nf, va_raw, hb_n, hb_sh, hb_bx, hb_raw, hb_br, sh_n, sh_c, tr_n, tr_b, tr_i, tr_l, tr_t, ty_n, ty_b, ty_i, ty_s, ty_l, ty_t, if_ff, if_tt, Env.set, List.getElem?_cons_succ, List.getElem?_cons_zero, List.set_cons_succ, List.set_cons_zero, List.reverse_cons, List.reverse_nil, List.nil_append, List.cons_append, Option.bind_some, ite_true, ite_false]
    rw [dB_map ds fun _ => true]
    refine φAll_dB ?_
    rw [if_neg (by decide), (all_true ds).2]
    exact q
  | tuple ds =>
    obtain ⟨h1, h2⟩ := dep_tuple hk
    try dsimp only [dVar_, gv_sh, gv_ow, gv_bx, gv_raw, gv_st, dC, dRaw, dOp, dUn, dTest, dTruth, dAnd, dOr, dNot, dYes, dIf, dAndV, dOrV, dNotV, dNotT, dChain, dNil, dCons, dTup, dLst, dats, dCB, dNoP, dPart, dSl, dNext, dBreak, dCont, dNever, dDrop, dRet, dRetN, dIfS, dSetG, dPar, dPar3, dAppend, dAppPop, dSetIx, dExt, dAug, dSet0, dSAdd, dSNotIn, dIter_, gi_l, gi_t, gi_b, dRng1, dRng2, dName, dGNil, dGCons, dGTup, dAsg, dFor, dWhile, dCall, dCallR, dArgs_, ga_f, ga_t, argsOf, dLc, wipeE, dListRg, dIndex, dSortSet, dSortSc, dEnum, dZip, dIsi, dIsi2, isaT, φI, φB, φC, φNeg, add_i, add_l, add_t, mul_i, mul_l, φIx, sl_l, sl_t, eq_i, eq_s, eq_l, eq_t, eq_b, eq_n, φIsN, isN_n, isN_b, isN_i, isN_s, isN_l, isN_t, φLen, φList, φTuple, φAbs, φInt, φMax, φIsB, its_l, its_t, rd_sh, rd_nw, rd_br, rp_sh, rp_nw, rp_br, rp_bx, rp_raw, rp_sr, rr_sh, rr_nw, rr_br, ra_sh, ra_br, ra_bx, ra_raw, va_sh, va_nt, va_nf, va_raw, hb_n, hb_sh, hb_bx, hb_raw, hb_br, sh_n, sh_c, tr_n, tr_b, tr_i, tr_l, tr_t, ty_n, ty_b, ty_i, ty_s, ty_l, ty_t, if_ff, if_tt, Env.set, List.getElem?_cons_succ, List.getElem?_cons_zero, List.set_cons_succ, List.set_cons_zero, List.reverse_cons, List.reverse_nil, List.nil_append, List.cons_append, Option.bind_some, ite_true, ite_false]
    refine if_t (by decide +kernel) ?_
    refine sq_ ?_
    try dsimp only [dVar_, gv_sh, gv_ow, gv_bx, gv_raw, gv_st, dC, dRaw, dOp, dUn, dTest, dTruth, dAnd, dOr, dNot, dYes, dIf, dAndV, dOrV, dNotV, dNotT, dChain, dNil, dCons, dTup, dLst, dats, dCB, dNoP, dPart, dSl, dNext, dBreak, dCont, dNever, dDrop, dRet, dRetN, dIfS, dSetG, dPar, dPar3, dAppend, dAppPop, dSetIx, dExt, dAug, dSet0, dSAdd, dSNotIn, dIter_, gi_l, gi_t, gi_b, dRng1, dRng2, dName, dGNil, dGCons, dGTup, dAsg, dFor, dWhile, dCall, dCallR, dArgs_, ga_f, ga_t, argsOf, dLc, wipeE, dListRg, dIndex, dSortSet, dSortSc, dEnum, dZip, dIsi, dIsi2, isaT, φI, φB, φC, φNeg, add_i, add_l, add_t, mul_i, mul_l, φIx, sl_l, sl_t, eq_i, eq_s, eq_l, eq_t, eq_b, eq_n, φIsN, isN_n, isN_b, isN_i, isN_s, isN_l, isN_t, φLen, φList, φTuple, φAbs, φInt, φMax, φIsB, its_l, its_t, rd_sh, rd_nw, rd_br, rp_sh, rp_nw, rp_br, rp_bx, rp_raw, rp_sr, rr_sh, rr_nw, rr_br, ra_sh, ra_br, ra_bx, ra_raw, va_sh, va_nt, va_nf, va_raw, hb_n, hb_sh, hb_bx, hb_raw, hb_br, sh_n, sh_c, tr_n, tr_b, tr_i, tr_l, tr_t, ty_n, ty_b, ty_i, ty_s, ty_l, ty_t, if_ff, if_tt, Env.set, List.getElem?_cons_succ, List.getElem?_cons_zero, List.set_cons_succ, List.set_cons_zero, List.reverse_cons, List.reverse_nil, List.nil_append, List.cons_append, Option.bind_some, ite_true, ite_false]
    refine ⟨⟨rfl, rfl⟩, ?_⟩
    refine if_f (by rfl) ?_
    refine ⟨⟨rfl, rfl⟩, ?_⟩
    refine if_f (by rfl) ?_
    refine if_t (decide_eq_true rfl) ?_
    refine same_seq h2 (by omega) ⟨_, _, rfl⟩ ?_
    try dsimp only [dVar_, gv_sh, gv_ow, gv_bx, gv_raw, gv_st, dC, dRaw, dOp, dUn, dTest, dTruth, dAnd, dOr, dNot, dYes, dIf, dAndV, dOrV, dNotV, dNotT, dChain, dNil, dCons, dTup, dLst, dats, dCB, dNoP, dPart, dSl, dNext, dBreak, dCont, dNever, dDrop, dRet, dRetN, dIfS, dSetG, dPar, dPar3, dAppend, dAppPop, dSetIx, dExt, dAug, dSet0, dSAdd, dSNotIn, dIter_, gi_l, gi_t, gi_b, dRng1, dRng2, dName, dGNil, dGCons, dGTup, dAsg, dFor, dWhile, dCall, dCallR, dArgs_, ga_f, ga_t, argsOf, dLc, wipeE, dListRg, dIndex, dSortSet, dSortSc, dEnum, dZip, dIsi, dIsi2, isaT, φI, φB, φC, φNeg, add_i, add_l, add_t, mul_i, mul_l, φIx, sl_l, sl_t, eq_i, eq_s, eq_l, eq_t, eq_b, eq_n, φIsN, isN_n, isN_b, isN_i, isN_s, isN_l, isN_t, φLen, φList, φTuple, φAbs, φInt, φMax, φIsB, its_l, its_t, rd_sh, rd_nw, rd_br, rp_sh, rp_nw, rp_br, rp_bx, rp_raw, rp_sr, rr_sh, rr_nw, rr_br, ra_sh, ra_br, ra_bx, ra_raw, va_sh, va_nt, va_nf, va_raw, hb_n, hb_sh, hb_bx, hb_raw, hb_br, sh_n, sh_c, tr_n, tr_b, tr_i, tr_l, tr_t, ty_n, ty_b, ty_i, ty_s, ty_l, ty_t, if_ff, if_tt, Env.set, List.getElem?_cons_succ, List.getElem?_cons_zero, List.set_cons_succ, List.set_cons_zero, List.reverse_cons, List.reverse_nil, List.nil_append, List.cons_append, Option.bind_some, ite_true, ite_false]
    rw [dB_map ds fun _ => true]
    refine φAll_dB ?_
    rw [if_neg (by decide), (all_true ds).2]
    exact q
  | dict _ => unfold dep at hk; cases hk
end Lp

namespace Lp
open PySem PySem.Spec PyProof.Rows L2
/-! ### codes -/
theorem high_iff {ns : List Int} (hs : Stt ns) {p : Int} (hp : Per ns p) : heightF ns p = 0 ↔ p ∈ routeF ns (gt ns p) := by
  constructor
  · intro h
    obtain ⟨c, cy, _, _⟩ := ringF_cyc hs.lo hp.1 hp.2
    rw [h] at cy
    exact on_ring cy (hs.rt (hs.gt hp))
  · intro h
    by_cases z : heightF ns p = 0
    · exact z
    · exact absurd h (off_ring hs.lo hp.1 hp.2 (t := 0) (by omega) (hs.rt (hs.gt hp)))
def codeF (ns : List Int) : List Int := (List.range ns.length).map fun i : Nat => if heightF ns (i : Int) = 0 then -1 else gt ns (i : Int)
theorem code_len (ns : List Int) : (codeF ns).length = ns.length := by unfold codeF; rw [List.length_map, List.length_range]
theorem dI_range (n : Nat) (f : Nat → Int) : (List.range n).map (fun i => PyData.int (f i)) = dI ((List.range n).map f) := by
  show _ = List.map _ (List.map _ _)
  rw [List.map_map]; rfl
/-- code_of: state, person -/
def b_code_of : DTS := (dRet (dCB φTuple (dCons (dLc (dRng1 (dCons (dCB φLen (dCons (dVar 0) dNil)) dNil)) (dName 1) dYes (dIf (dTest (dOp (φEq false) (dCall p_height (dCons (dVar 0) (dCons (dVar 1) dNil))) (dC (.int 0)))) (dC (.int (-1))) (dOp φIx (dVar 0) (dVar 1))) [1]) dNil)))
abbrev k_code_of : Nat := 1
def p_code_of : DSp := fun args c Q => ∃ (d : PyData) (ns : List Int), args = [.sh d] ∧ PyData.its d = some (dI ns) ∧ Stt ns ∧ Q (.sh (.tuple (dI (codeF ns)))) c
theorem mon_code_of : MonF p_code_of := fun args c A B h ⟨d, ns, e, h1, h2, q⟩ => ⟨d, ns, e, h1, h2, h _ _ q⟩
theorem m_code_of : ∀ args c Q, p_code_of args c Q → defF k_code_of b_code_of args c Q := by
  rintro _ c Q ⟨d, ns, rfl, h1, h2, q⟩
  have hle := h2.le
  show b_code_of _ ⟨[.sh d, .un], c⟩
  unfold b_code_of
  try dsimp only [dVar_, gv_sh, gv_ow, gv_bx, gv_raw, gv_st, dC, dRaw, dOp, dUn, dTest, dTruth, dAnd, dOr, dNot, dYes, dIf, dAndV, dOrV, dNotV, dNotT, dChain, dNil, dCons, dTup, dLst, dats, dCB, dNoP, dPart, dSl, dNext, dBreak, dCont, dNever, dDrop, dRet, dRetN, dIfS, dSetG, dPar, dPar3, dAppend, dAppPop, dSetIx, dExt, dAug, dSet0, dSAdd, dSNotIn, dIter_, gi_l, gi_t, gi_b, dRng1, dRng2, dName, dGNil, dGCons, dGTup, dAsg, dFor, dWhile, dCall, dCallR, dArgs_, ga_f, ga_t, argsOf, dLc, wipeE, dListRg, dIndex, dSortSet, dSortSc, dEnum, dZip, dIsi, dIsi2, isaT, φI, φB, φC, φNeg, add_i, add_l, add_t, mul_i, mul_l, φIx, sl_l, sl_t, eq_i, eq_s, eq_l, eq_t, eq_b, eq_n, φIsN, isN_n, isN_b, isN_i, isN_s, isN_l, isN_t, φLen, φList, φTuple, φAbs, φInt, φMax, φIsB, its_l, its_t, rd_sh, rd_nw, rd_br, rp_sh, rp_nw, rp_br, rp_bx, rp_raw, rp_sr, rr_sh, rr_nw, rr_br, ra_sh, ra_br, ra_bx, ra_raw, va_sh, va_nt, va_nf, va_raw, hb_n, hb_sh, hb_bx, hb_raw, hb_br, sh_n, sh_c, tr_n, tr_b, tr_i, tr_l, tr_t, ty_n, ty_b, ty_i, ty_s, ty_l, ty_t, if_ff, if_tt, Env.set, List.getElem?_cons_succ, List.getElem?_cons_zero, List.set_cons_succ, List.set_cons_zero, List.reverse_cons, List.reverse_nil, List.nil_append, List.cons_append, Option.bind_some, ite_true, ite_false]
  rw [h1]
  try dsimp only [dVar_, gv_sh, gv_ow, gv_bx, gv_raw, gv_st, dC, dRaw, dOp, dUn, dTest, dTruth, dAnd, dOr, dNot, dYes, dIf, dAndV, dOrV, dNotV, dNotT, dChain, dNil, dCons, dTup, dLst, dats, dCB, dNoP, dPart, dSl, dNext, dBreak, dCont, dNever, dDrop, dRet, dRetN, dIfS, dSetG, dPar, dPar3, dAppend, dAppPop, dSetIx, dExt, dAug, dSet0, dSAdd, dSNotIn, dIter_, gi_l, gi_t, gi_b, dRng1, dRng2, dName, dGNil, dGCons, dGTup, dAsg, dFor, dWhile, dCall, dCallR, dArgs_, ga_f, ga_t, argsOf, dLc, wipeE, dListRg, dIndex, dSortSet, dSortSc, dEnum, dZip, dIsi, dIsi2, isaT, φI, φB, φC, φNeg, add_i, add_l, add_t, mul_i, mul_l, φIx, sl_l, sl_t, eq_i, eq_s, eq_l, eq_t, eq_b, eq_n, φIsN, isN_n, isN_b, isN_i, isN_s, isN_l, isN_t, φLen, φList, φTuple, φAbs, φInt, φMax, φIsB, its_l, its_t, rd_sh, rd_nw, rd_br, rp_sh, rp_nw, rp_br, rp_bx, rp_raw, rp_sr, rr_sh, rr_nw, rr_br, ra_sh, ra_br, ra_bx, ra_raw, va_sh, va_nt, va_nf, va_raw, hb_n, hb_sh, hb_bx, hb_raw, hb_br, sh_n, sh_c, tr_n, tr_b, tr_i, tr_l, tr_t, ty_n, ty_b, ty_i, ty_s, ty_l, ty_t, if_ff, if_tt, Env.set, List.getElem?_cons_succ, List.getElem?_cons_zero, List.set_cons_succ, List.set_cons_zero, List.reverse_cons, List.reverse_nil, List.nil_append, List.cons_append, Option.bind_some, ite_true, ite_false]
  rw [dI_len]
  refine ⟨h2.rg, ?_⟩
  rw [Int.toNat_natCast, rg0]
  refine lc_all _ (fun i : Nat => .int (if heightF ns (i : Int) = 0 then -1 else gt ns (i : Int))) (List.range ns.length) [] (fun i hi K hK => ?_) (by rw [List.length_range]; show 0 + _ ≤ _; omega) ?_
  · have hp := per_nat (List.mem_range.mp hi)
    try dsimp only [dVar_, gv_sh, gv_ow, gv_bx, gv_raw, gv_st, dC, dRaw, dOp, dUn, dTest, dTruth, dAnd, dOr, dNot, dYes, dIf, dAndV, dOrV, dNotV, dNotT, dChain, dNil, dCons, dTup, dLst, dats, dCB, dNoP, dPart, dSl, dNext, dBreak, dCont, dNever, dDrop, dRet, dRetN, dIfS, dSetG, dPar, dPar3, dAppend, dAppPop, dSetIx, dExt, dAug, dSet0, dSAdd, dSNotIn, dIter_, gi_l, gi_t, gi_b, dRng1, dRng2, dName, dGNil, dGCons, dGTup, dAsg, dFor, dWhile, dCall, dCallR, dArgs_, ga_f, ga_t, argsOf, dLc, wipeE, dListRg, dIndex, dSortSet, dSortSc, dEnum, dZip, dIsi, dIsi2, isaT, φI, φB, φC, φNeg, add_i, add_l, add_t, mul_i, mul_l, φIx, sl_l, sl_t, eq_i, eq_s, eq_l, eq_t, eq_b, eq_n, φIsN, isN_n, isN_b, isN_i, isN_s, isN_l, isN_t, φLen, φList, φTuple, φAbs, φInt, φMax, φIsB, its_l, its_t, rd_sh, rd_nw, rd_br, rp_sh, rp_nw, rp_br, rp_bx, rp_raw, rp_sr, rr_sh, rr_nw, rr_br, ra_sh, ra_br, ra_bx, ra_raw, va_sh, va_nt, va_nf, va_raw, hb_n, hb_sh, hb_bx, hb_raw, hb_br, sh_n, sh_c, tr_n, tr_b, tr_i, tr_l, tr_t, ty_n, ty_b, ty_i, ty_s, ty_l, ty_t, if_ff, if_tt, Env.set, List.getElem?_cons_succ, List.getElem?_cons_zero, List.set_cons_succ, List.set_cons_zero, List.reverse_cons, List.reverse_nil, List.nil_append, List.cons_append, Option.bind_some, ite_true, ite_false]
    refine c_height h1 h2 hp ?_
    try dsimp only [dVar_, gv_sh, gv_ow, gv_bx, gv_raw, gv_st, dC, dRaw, dOp, dUn, dTest, dTruth, dAnd, dOr, dNot, dYes, dIf, dAndV, dOrV, dNotV, dNotT, dChain, dNil, dCons, dTup, dLst, dats, dCB, dNoP, dPart, dSl, dNext, dBreak, dCont, dNever, dDrop, dRet, dRetN, dIfS, dSetG, dPar, dPar3, dAppend, dAppPop, dSetIx, dExt, dAug, dSet0, dSAdd, dSNotIn, dIter_, gi_l, gi_t, gi_b, dRng1, dRng2, dName, dGNil, dGCons, dGTup, dAsg, dFor, dWhile, dCall, dCallR, dArgs_, ga_f, ga_t, argsOf, dLc, wipeE, dListRg, dIndex, dSortSet, dSortSc, dEnum, dZip, dIsi, dIsi2, isaT, φI, φB, φC, φNeg, add_i, add_l, add_t, mul_i, mul_l, φIx, sl_l, sl_t, eq_i, eq_s, eq_l, eq_t, eq_b, eq_n, φIsN, isN_n, isN_b, isN_i, isN_s, isN_l, isN_t, φLen, φList, φTuple, φAbs, φInt, φMax, φIsB, its_l, its_t, rd_sh, rd_nw, rd_br, rp_sh, rp_nw, rp_br, rp_bx, rp_raw, rp_sr, rr_sh, rr_nw, rr_br, ra_sh, ra_br, ra_bx, ra_raw, va_sh, va_nt, va_nf, va_raw, hb_n, hb_sh, hb_bx, hb_raw, hb_br, sh_n, sh_c, tr_n, tr_b, tr_i, tr_l, tr_t, ty_n, ty_b, ty_i, ty_s, ty_l, ty_t, if_ff, if_tt, Env.set, List.getElem?_cons_succ, List.getElem?_cons_zero, List.set_cons_succ, List.set_cons_zero, List.reverse_cons, List.reverse_nil, List.nil_append, List.cons_append, Option.bind_some, ite_true, ite_false]
    refine it_2 (fun e => ?_) fun e => ?_
    · have e : heightF ns (i : Int) = 0 := by omega
      rw [if_pos e] at hK
      exact hK _ _ rfl rfl
    · have e : ¬ heightF ns (i : Int) = 0 := by omega
      rw [if_neg e] at hK
      rw [h1]
      exact ⟨_, atI_dI hp.1 hp.2, hK _ _ rfl rfl⟩
  · try dsimp only [dVar_, gv_sh, gv_ow, gv_bx, gv_raw, gv_st, dC, dRaw, dOp, dUn, dTest, dTruth, dAnd, dOr, dNot, dYes, dIf, dAndV, dOrV, dNotV, dNotT, dChain, dNil, dCons, dTup, dLst, dats, dCB, dNoP, dPart, dSl, dNext, dBreak, dCont, dNever, dDrop, dRet, dRetN, dIfS, dSetG, dPar, dPar3, dAppend, dAppPop, dSetIx, dExt, dAug, dSet0, dSAdd, dSNotIn, dIter_, gi_l, gi_t, gi_b, dRng1, dRng2, dName, dGNil, dGCons, dGTup, dAsg, dFor, dWhile, dCall, dCallR, dArgs_, ga_f, ga_t, argsOf, dLc, wipeE, dListRg, dIndex, dSortSet, dSortSc, dEnum, dZip, dIsi, dIsi2, isaT, φI, φB, φC, φNeg, add_i, add_l, add_t, mul_i, mul_l, φIx, sl_l, sl_t, eq_i, eq_s, eq_l, eq_t, eq_b, eq_n, φIsN, isN_n, isN_b, isN_i, isN_s, isN_l, isN_t, φLen, φList, φTuple, φAbs, φInt, φMax, φIsB, its_l, its_t, rd_sh, rd_nw, rd_br, rp_sh, rp_nw, rp_br, rp_bx, rp_raw, rp_sr, rr_sh, rr_nw, rr_br, ra_sh, ra_br, ra_bx, ra_raw, va_sh, va_nt, va_nf, va_raw, hb_n, hb_sh, hb_bx, hb_raw, hb_br, sh_n, sh_c, tr_n, tr_b, tr_i, tr_l, tr_t, ty_n, ty_b, ty_i, ty_s, ty_l, ty_t, if_ff, if_tt, Env.set, List.getElem?_cons_succ, List.getElem?_cons_zero, List.set_cons_succ, List.set_cons_zero, List.reverse_cons, List.reverse_nil, List.nil_append, List.cons_append, Option.bind_some, ite_true, ite_false]
    rw [dI_range]
    exact q
/-- _law_code: _law_there, _law_who -/
def b_law_code : DTS := (dRet (dCB φTuple (dCons (dLc (dRng1 (dCons (dCB φLen (dCons (dVar 0) dNil)) dNil)) (dName 1) dYes (dIf (dTest (dOp (φIn false) (dVar 1) (dCall p_law_met (dCons (dVar 0) (dCons (dVar 1) dNil))))) (dUn φNeg (dC (.int 1))) (dOp φIx (dVar 0) (dVar 1))) [1]) dNil)))
abbrev k_law_code : Nat := 1
def p_law_code : DSp := p_code_of
theorem mon_law_code : MonF p_law_code := mon_code_of
theorem m_law_code : ∀ args c Q, p_law_code args c Q → defF k_law_code b_law_code args c Q := by
  rintro _ c Q ⟨d, ns, rfl, h1, h2, q⟩
  have hle := h2.le
  show b_law_code _ ⟨[.sh d, .un], c⟩
  unfold b_law_code
  try dsimp only [dVar_, gv_sh, gv_ow, gv_bx, gv_raw, gv_st, dC, dRaw, dOp, dUn, dTest, dTruth, dAnd, dOr, dNot, dYes, dIf, dAndV, dOrV, dNotV, dNotT, dChain, dNil, dCons, dTup, dLst, dats, dCB, dNoP, dPart, dSl, dNext, dBreak, dCont, dNever, dDrop, dRet, dRetN, dIfS, dSetG, dPar, dPar3, dAppend, dAppPop, dSetIx, dExt, dAug, dSet0, dSAdd, dSNotIn, dIter_, gi_l, gi_t, gi_b, dRng1, dRng2, dName, dGNil, dGCons, dGTup, dAsg, dFor, dWhile, dCall, dCallR, dArgs_, ga_f, ga_t, argsOf, dLc, wipeE, dListRg, dIndex, dSortSet, dSortSc, dEnum, dZip, dIsi, dIsi2, isaT, φI, φB, φC, φNeg, add_i, add_l, add_t, mul_i, mul_l, φIx, sl_l, sl_t, eq_i, eq_s, eq_l, eq_t, eq_b, eq_n, φIsN, isN_n, isN_b, isN_i, isN_s, isN_l, isN_t, φLen, φList, φTuple, φAbs, φInt, φMax, φIsB, its_l, its_t, rd_sh, rd_nw, rd_br, rp_sh, rp_nw, rp_br, rp_bx, rp_raw, rp_sr, rr_sh, rr_nw, rr_br, ra_sh, ra_br, ra_bx, ra_raw, va_sh, va_nt, va_nf, va_raw, hb_n, hb_sh, hb_bx, hb_raw, hb_br, sh_n, sh_c, tr_n, tr_b, tr_i, tr_l, tr_t, ty_n, ty_b, ty_i, ty_s, ty_l, ty_t, if_ff, if_tt, Env.set, List.getElem?_cons_succ, List.getElem?_cons_zero, List.set_cons_succ, List.set_cons_zero, List.reverse_cons, List.reverse_nil, List.nil_append, List.cons_append, Option.bind_some, ite_true, ite_false]
  rw [h1]
  try dsimp only [dVar_, gv_sh, gv_ow, gv_bx, gv_raw, gv_st, dC, dRaw, dOp, dUn, dTest, dTruth, dAnd, dOr, dNot, dYes, dIf, dAndV, dOrV, dNotV, dNotT, dChain, dNil, dCons, dTup, dLst, dats, dCB, dNoP, dPart, dSl, dNext, dBreak, dCont, dNever, dDrop, dRet, dRetN, dIfS, dSetG, dPar, dPar3, dAppend, dAppPop, dSetIx, dExt, dAug, dSet0, dSAdd, dSNotIn, dIter_, gi_l, gi_t, gi_b, dRng1, dRng2, dName, dGNil, dGCons, dGTup, dAsg, dFor, dWhile, dCall, dCallR, dArgs_, ga_f, ga_t, argsOf, dLc, wipeE, dListRg, dIndex, dSortSet, dSortSc, dEnum, dZip, dIsi, dIsi2, isaT, φI, φB, φC, φNeg, add_i, add_l, add_t, mul_i, mul_l, φIx, sl_l, sl_t, eq_i, eq_s, eq_l, eq_t, eq_b, eq_n, φIsN, isN_n, isN_b, isN_i, isN_s, isN_l, isN_t, φLen, φList, φTuple, φAbs, φInt, φMax, φIsB, its_l, its_t, rd_sh, rd_nw, rd_br, rp_sh, rp_nw, rp_br, rp_bx, rp_raw, rp_sr, rr_sh, rr_nw, rr_br, ra_sh, ra_br, ra_bx, ra_raw, va_sh, va_nt, va_nf, va_raw, hb_n, hb_sh, hb_bx, hb_raw, hb_br, sh_n, sh_c, tr_n, tr_b, tr_i, tr_l, tr_t, ty_n, ty_b, ty_i, ty_s, ty_l, ty_t, if_ff, if_tt, Env.set, List.getElem?_cons_succ, List.getElem?_cons_zero, List.set_cons_succ, List.set_cons_zero, List.reverse_cons, List.reverse_nil, List.nil_append, List.cons_append, Option.bind_some, ite_true, ite_false]
  rw [dI_len]
  refine ⟨h2.rg, ?_⟩
  rw [Int.toNat_natCast, rg0]
  refine lc_all _ (fun i : Nat => .int (if heightF ns (i : Int) = 0 then -1 else gt ns (i : Int))) (List.range ns.length) [] (fun i hi K hK => ?_) (by rw [List.length_range]; show 0 + _ ≤ _; omega) ?_
  · have hp := per_nat (List.mem_range.mp hi)
    try dsimp only [dVar_, gv_sh, gv_ow, gv_bx, gv_raw, gv_st, dC, dRaw, dOp, dUn, dTest, dTruth, dAnd, dOr, dNot, dYes, dIf, dAndV, dOrV, dNotV, dNotT, dChain, dNil, dCons, dTup, dLst, dats, dCB, dNoP, dPart, dSl, dNext, dBreak, dCont, dNever, dDrop, dRet, dRetN, dIfS, dSetG, dPar, dPar3, dAppend, dAppPop, dSetIx, dExt, dAug, dSet0, dSAdd, dSNotIn, dIter_, gi_l, gi_t, gi_b, dRng1, dRng2, dName, dGNil, dGCons, dGTup, dAsg, dFor, dWhile, dCall, dCallR, dArgs_, ga_f, ga_t, argsOf, dLc, wipeE, dListRg, dIndex, dSortSet, dSortSc, dEnum, dZip, dIsi, dIsi2, isaT, φI, φB, φC, φNeg, add_i, add_l, add_t, mul_i, mul_l, φIx, sl_l, sl_t, eq_i, eq_s, eq_l, eq_t, eq_b, eq_n, φIsN, isN_n, isN_b, isN_i, isN_s, isN_l, isN_t, φLen, φList, φTuple, φAbs, φInt, φMax, φIsB, its_l, its_t, rd_sh, rd_nw, rd_br, rp_sh, rp_nw, rp_br, rp_bx, rp_raw, rp_sr, rr_sh, rr_nw, rr_br, ra_sh, ra_br, ra_bx, ra_raw, va_sh, va_nt, va_nf, va_raw, hb_n, hb_sh, hb_bx, hb_raw, hb_br, sh_n, sh_c, tr_n, tr_b, tr_i, tr_l, tr_t, ty_n, ty_b, ty_i, ty_s, ty_l, ty_t, if_ff, if_tt, Env.set, List.getElem?_cons_succ, List.getElem?_cons_zero, List.set_cons_succ, List.set_cons_zero, List.reverse_cons, List.reverse_nil, List.nil_append, List.cons_append, Option.bind_some, ite_true, ite_false]
    refine c_met h1 h2 hp ?_
    try dsimp only [dVar_, gv_sh, gv_ow, gv_bx, gv_raw, gv_st, dC, dRaw, dOp, dUn, dTest, dTruth, dAnd, dOr, dNot, dYes, dIf, dAndV, dOrV, dNotV, dNotT, dChain, dNil, dCons, dTup, dLst, dats, dCB, dNoP, dPart, dSl, dNext, dBreak, dCont, dNever, dDrop, dRet, dRetN, dIfS, dSetG, dPar, dPar3, dAppend, dAppPop, dSetIx, dExt, dAug, dSet0, dSAdd, dSNotIn, dIter_, gi_l, gi_t, gi_b, dRng1, dRng2, dName, dGNil, dGCons, dGTup, dAsg, dFor, dWhile, dCall, dCallR, dArgs_, ga_f, ga_t, argsOf, dLc, wipeE, dListRg, dIndex, dSortSet, dSortSc, dEnum, dZip, dIsi, dIsi2, isaT, φI, φB, φC, φNeg, add_i, add_l, add_t, mul_i, mul_l, φIx, sl_l, sl_t, eq_i, eq_s, eq_l, eq_t, eq_b, eq_n, φIsN, isN_n, isN_b, isN_i, isN_s, isN_l, isN_t, φLen, φList, φTuple, φAbs, φInt, φMax, φIsB, its_l, its_t, rd_sh, rd_nw, rd_br, rp_sh, rp_nw, rp_br, rp_bx, rp_raw, rp_sr, rr_sh, rr_nw, rr_br, ra_sh, ra_br, ra_bx, ra_raw, va_sh, va_nt, va_nf, va_raw, hb_n, hb_sh, hb_bx, hb_raw, hb_br, sh_n, sh_c, tr_n, tr_b, tr_i, tr_l, tr_t, ty_n, ty_b, ty_i, ty_s, ty_l, ty_t, if_ff, if_tt, Env.set, List.getElem?_cons_succ, List.getElem?_cons_zero, List.set_cons_succ, List.set_cons_zero, List.reverse_cons, List.reverse_nil, List.nil_append, List.cons_append, Option.bind_some, ite_true, ite_false]
    refine φIn_dI (its_l _) ?_
    try dsimp only [dVar_, gv_sh, gv_ow, gv_bx, gv_raw, gv_st, dC, dRaw, dOp, dUn, dTest, dTruth, dAnd, dOr, dNot, dYes, dIf, dAndV, dOrV, dNotV, dNotT, dChain, dNil, dCons, dTup, dLst, dats, dCB, dNoP, dPart, dSl, dNext, dBreak, dCont, dNever, dDrop, dRet, dRetN, dIfS, dSetG, dPar, dPar3, dAppend, dAppPop, dSetIx, dExt, dAug, dSet0, dSAdd, dSNotIn, dIter_, gi_l, gi_t, gi_b, dRng1, dRng2, dName, dGNil, dGCons, dGTup, dAsg, dFor, dWhile, dCall, dCallR, dArgs_, ga_f, ga_t, argsOf, dLc, wipeE, dListRg, dIndex, dSortSet, dSortSc, dEnum, dZip, dIsi, dIsi2, isaT, φI, φB, φC, φNeg, add_i, add_l, add_t, mul_i, mul_l, φIx, sl_l, sl_t, eq_i, eq_s, eq_l, eq_t, eq_b, eq_n, φIsN, isN_n, isN_b, isN_i, isN_s, isN_l, isN_t, φLen, φList, φTuple, φAbs, φInt, φMax, φIsB, its_l, its_t, rd_sh, rd_nw, rd_br, rp_sh, rp_nw, rp_br, rp_bx, rp_raw, rp_sr, rr_sh, rr_nw, rr_br, ra_sh, ra_br, ra_bx, ra_raw, va_sh, va_nt, va_nf, va_raw, hb_n, hb_sh, hb_bx, hb_raw, hb_br, sh_n, sh_c, tr_n, tr_b, tr_i, tr_l, tr_t, ty_n, ty_b, ty_i, ty_s, ty_l, ty_t, if_ff, if_tt, Env.set, List.getElem?_cons_succ, List.getElem?_cons_zero, List.set_cons_succ, List.set_cons_zero, List.reverse_cons, List.reverse_nil, List.nil_append, List.cons_append, Option.bind_some, ite_true, ite_false]
    refine it_2 (fun e => ?_) fun e => ?_
    · rw [if_pos ((high_iff h2 hp).mpr e)] at hK
      exact hK _ _ rfl rfl
    · rw [if_neg (fun z => e ((high_iff h2 hp).mp z))] at hK
      rw [h1]
      exact ⟨_, atI_dI hp.1 hp.2, hK _ _ rfl rfl⟩
  · try dsimp only [dVar_, gv_sh, gv_ow, gv_bx, gv_raw, gv_st, dC, dRaw, dOp, dUn, dTest, dTruth, dAnd, dOr, dNot, dYes, dIf, dAndV, dOrV, dNotV, dNotT, dChain, dNil, dCons, dTup, dLst, dats, dCB, dNoP, dPart, dSl, dNext, dBreak, dCont, dNever, dDrop, dRet, dRetN, dIfS, dSetG, dPar, dPar3, dAppend, dAppPop, dSetIx, dExt, dAug, dSet0, dSAdd, dSNotIn, dIter_, gi_l, gi_t, gi_b, dRng1, dRng2, dName, dGNil, dGCons, dGTup, dAsg, dFor, dWhile, dCall, dCallR, dArgs_, ga_f, ga_t, argsOf, dLc, wipeE, dListRg, dIndex, dSortSet, dSortSc, dEnum, dZip, dIsi, dIsi2, isaT, φI, φB, φC, φNeg, add_i, add_l, add_t, mul_i, mul_l, φIx, sl_l, sl_t, eq_i, eq_s, eq_l, eq_t, eq_b, eq_n, φIsN, isN_n, isN_b, isN_i, isN_s, isN_l, isN_t, φLen, φList, φTuple, φAbs, φInt, φMax, φIsB, its_l, its_t, rd_sh, rd_nw, rd_br, rp_sh, rp_nw, rp_br, rp_bx, rp_raw, rp_sr, rr_sh, rr_nw, rr_br, ra_sh, ra_br, ra_bx, ra_raw, va_sh, va_nt, va_nf, va_raw, hb_n, hb_sh, hb_bx, hb_raw, hb_br, sh_n, sh_c, tr_n, tr_b, tr_i, tr_l, tr_t, ty_n, ty_b, ty_i, ty_s, ty_l, ty_t, if_ff, if_tt, Env.set, List.getElem?_cons_succ, List.getElem?_cons_zero, List.set_cons_succ, List.set_cons_zero, List.reverse_cons, List.reverse_nil, List.nil_append, List.cons_append, Option.bind_some, ite_true, ite_false]
    rw [dI_range]
    exact q
/-! ### the number of futures -/
def insF (RS : List (List Int)) : List Int := RS.map fun r => ((r.length : Int) + 1) ^ (r.length - 1)
def outF (ns : List Int) : List Int := ((List.range ns.length).filter fun i : Nat => decide (0 < heightF ns (i : Int))).map fun i : Nat => ((routeF ns (gt ns (i : Int))).length : Int)
theorem fold_mul : ∀ (fs : List Int) (a : Int), fs.foldl (· * ·) a = a * prodL fs
  | [], a => by show a = a * 1; rw [Int.mul_one]
  | f :: r, a => by
    unfold prodL
    rw [List.foldl_cons, List.foldl_cons, fold_mul r (a * f), fold_mul r (1 * f), Int.one_mul, Int.mul_assoc]
theorem prodL_cons (f : Int) (r : List Int) : prodL (f :: r) = f * prodL r := by
  show (f :: r).foldl _ 1 = _
  rw [List.foldl_cons, fold_mul, Int.one_mul]
theorem prodL_rep (z : Int) : ∀ n : Nat, prodL (List.replicate n z) = z ^ n
  | 0 => (Int.pow_zero z).symm
  | n + 1 => by rw [List.replicate_succ, prodL_cons, prodL_rep z n, Int.pow_succ, Int.mul_comm]
theorem prodL_bd {b : Nat} {fs : List Int} (h : ∀ f ∈ fs, 0 ≤ f ∧ f < 2 ^ b) : 0 ≤ prodL fs ∧ prodL fs ≤ 2 ^ (b * fs.length) := by
  have := prod_le b fs 1 0 h (by decide) (by decide)
  rw [Nat.zero_add] at this
  exact this
theorem ins_bd {n : Nat} {RS : List (List Int)} (h : ∀ r ∈ RS, r.length ≤ 60) : ∀ f ∈ insF RS, 0 ≤ f ∧ f < 2 ^ 361 := by
  intro f hf
  obtain ⟨r, hr, rfl⟩ := List.mem_map.mp hf
  have hl := h r hr
  have : prodL (List.replicate (r.length - 1) ((r.length : Int) + 1)) ≤ 2 ^ (6 * (List.replicate (r.length - 1) ((r.length : Int) + 1)).length) ∧ 0 ≤ prodL (List.replicate (r.length - 1) ((r.length : Int) + 1)) := by
    have := prodL_bd (b := 6) (fs := List.replicate (r.length - 1) ((r.length : Int) + 1)) fun f hf => by
      rw [List.eq_of_mem_replicate hf]; omega
    exact ⟨this.2, this.1⟩
  rw [prodL_rep, List.length_replicate] at this
  refine ⟨this.2, Int.lt_of_le_of_lt this.1 ?_⟩
  exact Int.pow_lt_pow_of_lt (by decide) (by omega)
theorem dI_len1 {α : Type} (xs : List α) (f : α → Int) : (xs.map fun x => PyData.int (f x)) = dI (xs.map f) := by
  show _ = List.map _ (List.map _ _)
  rw [List.map_map]; rfl
theorem mul_bits {a b : Int} {j k : Nat} (a0 : 0 ≤ a) (a1 : a ≤ 2 ^ j) (b0 : 0 ≤ b) (b1 : b ≤ 2 ^ k) (h : j + k < 1000000) : CMulW a b := by
  have := log_le a0 a1
  have := log_le b0 b1
  show _ + _ < _
  omega
theorem rep_one (n : Nat) (z : Int) : (List.replicate n [PyData.int z]).flatten = dI (List.replicate n z) := by
  show _ = (List.replicate n z).map _
  rw [List.map_replicate]
  induction n with
  | zero => rfl
  | succ m ih => rw [List.replicate_succ, List.flatten_cons, ih, List.replicate_succ]; rfl
/-- futures_many: state, outside, person, inside, ring -/
def b_futures_many : DTS := (dSeq (dSetG false 1 (dLc (dRng1 (dCons (dCB φLen (dCons (dVar 0) dNil)) dNil)) (dName 2) (dTest (dOp (φB fun i j => decide (j < i)) (dCall p_height (dCons (dVar 0) (dCons (dVar 2) dNil))) (dC (.int 0)))) (dCB φLen (dCons (dCall p_way (dCons (dVar 0) (dCons (dVar 2) dNil))) dNil)) [2]))
  (dSeq (dSetG false 3 (dLc (dIter (dCall p_rings (dCons (dVar 0) dNil))) (dName 4) dYes (dCall p_product (dCons (dOp φMul (dLst (dCons (dOp φAdd (dCB φLen (dCons (dVar 4) dNil)) (dC (.int 1))) dNil)) (dOp (φI fun i j => i - j) (dCB φLen (dCons (dVar 4) dNil)) (dC (.int 1)))) dNil)) [4]))
  (dRet (dOp φMul (dCall p_product (dCons (dVar 1) dNil)) (dCall p_product (dCons (dVar 3) dNil))))))
abbrev k_futures_many : Nat := 4
def p_futures_many : DSp := fun args c Q => ∃ (d : PyData) (ns : List Int), args = [.sh d] ∧ PyData.its d = some (dI ns) ∧ Stt ns ∧ ns.length ≤ 60 ∧ ∀ RS, RingsOf ns RS → Q (.sh (.int (prodL (outF ns) * prodL (insF RS)))) c
theorem mon_futures_many : MonF p_futures_many := fun args c A B h ⟨d, ns, e, h1, h2, h3, q⟩ => ⟨d, ns, e, h1, h2, h3, fun RS hR => h _ _ (q RS hR)⟩
theorem out_bd {ns : List Int} (hs : Stt ns) (h : ns.length ≤ 60) : (∀ f ∈ outF ns, 0 ≤ f ∧ f < 2 ^ 6) ∧ (outF ns).length ≤ ns.length := by
  constructor
  · intro f hf
    obtain ⟨i, hi, rfl⟩ := List.mem_map.mp hf
    have hp := per_nat (List.mem_range.mp (List.mem_filter.mp hi).1)
    have := (route_len hs (hs.gt hp)).2
    omega
  · unfold outF
    rw [List.length_map]
    have := List.length_filter_le (fun i : Nat => decide (0 < heightF ns (i : Int))) (List.range ns.length)
    rw [List.length_range] at this
    exact this
theorem m_futures_many : ∀ args c Q, p_futures_many args c Q → defF k_futures_many b_futures_many args c Q := by
  rintro _ c Q ⟨d, ns, rfl, h1, h2, h3, q⟩
  have hle := h2.le
  show b_futures_many _ ⟨[.sh d, .un, .un, .un, .un], c⟩
  unfold b_futures_many
  refine sqa_ fun D hD => ?_
  try dsimp only [dVar_, gv_sh, gv_ow, gv_bx, gv_raw, gv_st, dC, dRaw, dOp, dUn, dTest, dTruth, dAnd, dOr, dNot, dYes, dIf, dAndV, dOrV, dNotV, dNotT, dChain, dNil, dCons, dTup, dLst, dats, dCB, dNoP, dPart, dSl, dNext, dBreak, dCont, dNever, dDrop, dRet, dRetN, dIfS, dSetG, dPar, dPar3, dAppend, dAppPop, dSetIx, dExt, dAug, dSet0, dSAdd, dSNotIn, dIter_, gi_l, gi_t, gi_b, dRng1, dRng2, dName, dGNil, dGCons, dGTup, dAsg, dFor, dWhile, dCall, dCallR, dArgs_, ga_f, ga_t, argsOf, dLc, wipeE, dListRg, dIndex, dSortSet, dSortSc, dEnum, dZip, dIsi, dIsi2, isaT, φI, φB, φC, φNeg, add_i, add_l, add_t, mul_i, mul_l, φIx, sl_l, sl_t, eq_i, eq_s, eq_l, eq_t, eq_b, eq_n, φIsN, isN_n, isN_b, isN_i, isN_s, isN_l, isN_t, φLen, φList, φTuple, φAbs, φInt, φMax, φIsB, its_l, its_t, rd_sh, rd_nw, rd_br, rp_sh, rp_nw, rp_br, rp_bx, rp_raw, rp_sr, rr_sh, rr_nw, rr_br, ra_sh, ra_br, ra_bx, ra_raw, va_sh, va_nt, va_nf, va_raw, hb_n, hb_sh, hb_bx, hb_raw, hb_br, sh_n, sh_c, tr_n, tr_b, tr_i, tr_l, tr_t, ty_n, ty_b, ty_i, ty_s, ty_l, ty_t, if_ff, if_tt, Env.set, List.getElem?_cons_succ, List.getElem?_cons_zero, List.set_cons_succ, List.set_cons_zero, List.reverse_cons, List.reverse_nil, List.nil_append, List.cons_append, Option.bind_some, ite_true, ite_false]
  rw [h1]
  try dsimp only [dVar_, gv_sh, gv_ow, gv_bx, gv_raw, gv_st, dC, dRaw, dOp, dUn, dTest, dTruth, dAnd, dOr, dNot, dYes, dIf, dAndV, dOrV, dNotV, dNotT, dChain, dNil, dCons, dTup, dLst, dats, dCB, dNoP, dPart, dSl, dNext, dBreak, dCont, dNever, dDrop, dRet, dRetN, dIfS, dSetG, dPar, dPar3, dAppend, dAppPop, dSetIx, dExt, dAug, dSet0, dSAdd, dSNotIn, dIter_, gi_l, gi_t, gi_b, dRng1, dRng2, dName, dGNil, dGCons, dGTup, dAsg, dFor, dWhile, dCall, dCallR, dArgs_, ga_f, ga_t, argsOf, dLc, wipeE, dListRg, dIndex, dSortSet, dSortSc, dEnum, dZip, dIsi, dIsi2, isaT, φI, φB, φC, φNeg, add_i, add_l, add_t, mul_i, mul_l, φIx, sl_l, sl_t, eq_i, eq_s, eq_l, eq_t, eq_b, eq_n, φIsN, isN_n, isN_b, isN_i, isN_s, isN_l, isN_t, φLen, φList, φTuple, φAbs, φInt, φMax, φIsB, its_l, its_t, rd_sh, rd_nw, rd_br, rp_sh, rp_nw, rp_br, rp_bx, rp_raw, rp_sr, rr_sh, rr_nw, rr_br, ra_sh, ra_br, ra_bx, ra_raw, va_sh, va_nt, va_nf, va_raw, hb_n, hb_sh, hb_bx, hb_raw, hb_br, sh_n, sh_c, tr_n, tr_b, tr_i, tr_l, tr_t, ty_n, ty_b, ty_i, ty_s, ty_l, ty_t, if_ff, if_tt, Env.set, List.getElem?_cons_succ, List.getElem?_cons_zero, List.set_cons_succ, List.set_cons_zero, List.reverse_cons, List.reverse_nil, List.nil_append, List.cons_append, Option.bind_some, ite_true, ite_false]
  rw [dI_len]
  refine ⟨h2.rg, ?_⟩
  rw [Int.toNat_natCast, rg0]
  refine lc_if _ (fun i : Nat => .int ((routeF ns (gt ns (i : Int))).length : Int)) (fun i : Nat => decide (0 < heightF ns (i : Int))) (List.range ns.length) [] (fun i hi Y N hY hN => ?_) (by rw [List.length_range]; show 0 + _ ≤ _; omega) ?_
  · have hp := per_nat (List.mem_range.mp hi)
    try dsimp only [dVar_, gv_sh, gv_ow, gv_bx, gv_raw, gv_st, dC, dRaw, dOp, dUn, dTest, dTruth, dAnd, dOr, dNot, dYes, dIf, dAndV, dOrV, dNotV, dNotT, dChain, dNil, dCons, dTup, dLst, dats, dCB, dNoP, dPart, dSl, dNext, dBreak, dCont, dNever, dDrop, dRet, dRetN, dIfS, dSetG, dPar, dPar3, dAppend, dAppPop, dSetIx, dExt, dAug, dSet0, dSAdd, dSNotIn, dIter_, gi_l, gi_t, gi_b, dRng1, dRng2, dName, dGNil, dGCons, dGTup, dAsg, dFor, dWhile, dCall, dCallR, dArgs_, ga_f, ga_t, argsOf, dLc, wipeE, dListRg, dIndex, dSortSet, dSortSc, dEnum, dZip, dIsi, dIsi2, isaT, φI, φB, φC, φNeg, add_i, add_l, add_t, mul_i, mul_l, φIx, sl_l, sl_t, eq_i, eq_s, eq_l, eq_t, eq_b, eq_n, φIsN, isN_n, isN_b, isN_i, isN_s, isN_l, isN_t, φLen, φList, φTuple, φAbs, φInt, φMax, φIsB, its_l, its_t, rd_sh, rd_nw, rd_br, rp_sh, rp_nw, rp_br, rp_bx, rp_raw, rp_sr, rr_sh, rr_nw, rr_br, ra_sh, ra_br, ra_bx, ra_raw, va_sh, va_nt, va_nf, va_raw, hb_n, hb_sh, hb_bx, hb_raw, hb_br, sh_n, sh_c, tr_n, tr_b, tr_i, tr_l, tr_t, ty_n, ty_b, ty_i, ty_s, ty_l, ty_t, if_ff, if_tt, Env.set, List.getElem?_cons_succ, List.getElem?_cons_zero, List.set_cons_succ, List.set_cons_zero, List.reverse_cons, List.reverse_nil, List.nil_append, List.cons_append, Option.bind_some, ite_true, ite_false]
    refine c_height h1 h2 hp ?_
    try dsimp only [dVar_, gv_sh, gv_ow, gv_bx, gv_raw, gv_st, dC, dRaw, dOp, dUn, dTest, dTruth, dAnd, dOr, dNot, dYes, dIf, dAndV, dOrV, dNotV, dNotT, dChain, dNil, dCons, dTup, dLst, dats, dCB, dNoP, dPart, dSl, dNext, dBreak, dCont, dNever, dDrop, dRet, dRetN, dIfS, dSetG, dPar, dPar3, dAppend, dAppPop, dSetIx, dExt, dAug, dSet0, dSAdd, dSNotIn, dIter_, gi_l, gi_t, gi_b, dRng1, dRng2, dName, dGNil, dGCons, dGTup, dAsg, dFor, dWhile, dCall, dCallR, dArgs_, ga_f, ga_t, argsOf, dLc, wipeE, dListRg, dIndex, dSortSet, dSortSc, dEnum, dZip, dIsi, dIsi2, isaT, φI, φB, φC, φNeg, add_i, add_l, add_t, mul_i, mul_l, φIx, sl_l, sl_t, eq_i, eq_s, eq_l, eq_t, eq_b, eq_n, φIsN, isN_n, isN_b, isN_i, isN_s, isN_l, isN_t, φLen, φList, φTuple, φAbs, φInt, φMax, φIsB, its_l, its_t, rd_sh, rd_nw, rd_br, rp_sh, rp_nw, rp_br, rp_bx, rp_raw, rp_sr, rr_sh, rr_nw, rr_br, ra_sh, ra_br, ra_bx, ra_raw, va_sh, va_nt, va_nf, va_raw, hb_n, hb_sh, hb_bx, hb_raw, hb_br, sh_n, sh_c, tr_n, tr_b, tr_i, tr_l, tr_t, ty_n, ty_b, ty_i, ty_s, ty_l, ty_t, if_ff, if_tt, Env.set, List.getElem?_cons_succ, List.getElem?_cons_zero, List.set_cons_succ, List.set_cons_zero, List.reverse_cons, List.reverse_nil, List.nil_append, List.cons_append, Option.bind_some, ite_true, ite_false]
    refine it_2 (fun e => ?_) fun e => ?_
    · have e : 0 < heightF ns (i : Int) := by omega
      refine c_way h1 h2 hp ?_
      try dsimp only [dVar_, gv_sh, gv_ow, gv_bx, gv_raw, gv_st, dC, dRaw, dOp, dUn, dTest, dTruth, dAnd, dOr, dNot, dYes, dIf, dAndV, dOrV, dNotV, dNotT, dChain, dNil, dCons, dTup, dLst, dats, dCB, dNoP, dPart, dSl, dNext, dBreak, dCont, dNever, dDrop, dRet, dRetN, dIfS, dSetG, dPar, dPar3, dAppend, dAppPop, dSetIx, dExt, dAug, dSet0, dSAdd, dSNotIn, dIter_, gi_l, gi_t, gi_b, dRng1, dRng2, dName, dGNil, dGCons, dGTup, dAsg, dFor, dWhile, dCall, dCallR, dArgs_, ga_f, ga_t, argsOf, dLc, wipeE, dListRg, dIndex, dSortSet, dSortSc, dEnum, dZip, dIsi, dIsi2, isaT, φI, φB, φC, φNeg, add_i, add_l, add_t, mul_i, mul_l, φIx, sl_l, sl_t, eq_i, eq_s, eq_l, eq_t, eq_b, eq_n, φIsN, isN_n, isN_b, isN_i, isN_s, isN_l, isN_t, φLen, φList, φTuple, φAbs, φInt, φMax, φIsB, its_l, its_t, rd_sh, rd_nw, rd_br, rp_sh, rp_nw, rp_br, rp_bx, rp_raw, rp_sr, rr_sh, rr_nw, rr_br, ra_sh, ra_br, ra_bx, ra_raw, va_sh, va_nt, va_nf, va_raw, hb_n, hb_sh, hb_bx, hb_raw, hb_br, sh_n, sh_c, tr_n, tr_b, tr_i, tr_l, tr_t, ty_n, ty_b, ty_i, ty_s, ty_l, ty_t, if_ff, if_tt, Env.set, List.getElem?_cons_succ, List.getElem?_cons_zero, List.set_cons_succ, List.set_cons_zero, List.reverse_cons, List.reverse_nil, List.nil_append, List.cons_append, Option.bind_some, ite_true, ite_false]
      rw [dI_len]
      exact hY (decide_eq_true e) _ _ rfl rfl
    · have e : ¬ 0 < heightF ns (i : Int) := by omega
      exact hN (decide_eq_false e) _ rfl
  try dsimp only [dVar_, gv_sh, gv_ow, gv_bx, gv_raw, gv_st, dC, dRaw, dOp, dUn, dTest, dTruth, dAnd, dOr, dNot, dYes, dIf, dAndV, dOrV, dNotV, dNotT, dChain, dNil, dCons, dTup, dLst, dats, dCB, dNoP, dPart, dSl, dNext, dBreak, dCont, dNever, dDrop, dRet, dRetN, dIfS, dSetG, dPar, dPar3, dAppend, dAppPop, dSetIx, dExt, dAug, dSet0, dSAdd, dSNotIn, dIter_, gi_l, gi_t, gi_b, dRng1, dRng2, dName, dGNil, dGCons, dGTup, dAsg, dFor, dWhile, dCall, dCallR, dArgs_, ga_f, ga_t, argsOf, dLc, wipeE, dListRg, dIndex, dSortSet, dSortSc, dEnum, dZip, dIsi, dIsi2, isaT, φI, φB, φC, φNeg, add_i, add_l, add_t, mul_i, mul_l, φIx, sl_l, sl_t, eq_i, eq_s, eq_l, eq_t, eq_b, eq_n, φIsN, isN_n, isN_b, isN_i, isN_s, isN_l, isN_t, φLen, φList, φTuple, φAbs, φInt, φMax, φIsB, its_l, its_t, rd_sh, rd_nw, rd_br, rp_sh, rp_nw, rp_br, rp_bx, rp_raw, rp_sr, rr_sh, rr_nw, rr_br, ra_sh, ra_br, ra_bx, ra_raw, va_sh, va_nt, va_nf, va_raw, hb_n, hb_sh, hb_bx, hb_raw, hb_br, sh_n, sh_c, tr_n, tr_b, tr_i, tr_l, tr_t, ty_n, ty_b, ty_i, ty_s, ty_l, ty_t, if_ff, if_tt, Env.set, List.getElem?_cons_succ, List.getElem?_cons_zero, List.set_cons_succ, List.set_cons_zero, List.reverse_cons, List.reverse_nil, List.nil_append, List.cons_append, Option.bind_some, ite_true, ite_false]
  refine hD _ ?_
  have eo : ((List.range ns.length).filter fun i : Nat => decide (0 < heightF ns (i : Int))).map (fun i : Nat => PyData.int ((routeF ns (gt ns (i : Int))).length : Int)) = dI (outF ns) := dI_len1 _ _
  rw [eo]
  refine sqa_ fun D hD => ?_
  try dsimp only [dVar_, gv_sh, gv_ow, gv_bx, gv_raw, gv_st, dC, dRaw, dOp, dUn, dTest, dTruth, dAnd, dOr, dNot, dYes, dIf, dAndV, dOrV, dNotV, dNotT, dChain, dNil, dCons, dTup, dLst, dats, dCB, dNoP, dPart, dSl, dNext, dBreak, dCont, dNever, dDrop, dRet, dRetN, dIfS, dSetG, dPar, dPar3, dAppend, dAppPop, dSetIx, dExt, dAug, dSet0, dSAdd, dSNotIn, dIter_, gi_l, gi_t, gi_b, dRng1, dRng2, dName, dGNil, dGCons, dGTup, dAsg, dFor, dWhile, dCall, dCallR, dArgs_, ga_f, ga_t, argsOf, dLc, wipeE, dListRg, dIndex, dSortSet, dSortSc, dEnum, dZip, dIsi, dIsi2, isaT, φI, φB, φC, φNeg, add_i, add_l, add_t, mul_i, mul_l, φIx, sl_l, sl_t, eq_i, eq_s, eq_l, eq_t, eq_b, eq_n, φIsN, isN_n, isN_b, isN_i, isN_s, isN_l, isN_t, φLen, φList, φTuple, φAbs, φInt, φMax, φIsB, its_l, its_t, rd_sh, rd_nw, rd_br, rp_sh, rp_nw, rp_br, rp_bx, rp_raw, rp_sr, rr_sh, rr_nw, rr_br, ra_sh, ra_br, ra_bx, ra_raw, va_sh, va_nt, va_nf, va_raw, hb_n, hb_sh, hb_bx, hb_raw, hb_br, sh_n, sh_c, tr_n, tr_b, tr_i, tr_l, tr_t, ty_n, ty_b, ty_i, ty_s, ty_l, ty_t, if_ff, if_tt, Env.set, List.getElem?_cons_succ, List.getElem?_cons_zero, List.set_cons_succ, List.set_cons_zero, List.reverse_cons, List.reverse_nil, List.nil_append, List.cons_append, Option.bind_some, ite_true, ite_false]
  refine c_rings h1 h2 (by omega) fun RS hR => ?_
  have hRl := hR.len
  have hb := ins_bd (n := ns.length) (RS := RS) fun r hr => Nat.le_trans (hR.mem h2 hr).2 h3
  try dsimp only [dVar_, gv_sh, gv_ow, gv_bx, gv_raw, gv_st, dC, dRaw, dOp, dUn, dTest, dTruth, dAnd, dOr, dNot, dYes, dIf, dAndV, dOrV, dNotV, dNotT, dChain, dNil, dCons, dTup, dLst, dats, dCB, dNoP, dPart, dSl, dNext, dBreak, dCont, dNever, dDrop, dRet, dRetN, dIfS, dSetG, dPar, dPar3, dAppend, dAppPop, dSetIx, dExt, dAug, dSet0, dSAdd, dSNotIn, dIter_, gi_l, gi_t, gi_b, dRng1, dRng2, dName, dGNil, dGCons, dGTup, dAsg, dFor, dWhile, dCall, dCallR, dArgs_, ga_f, ga_t, argsOf, dLc, wipeE, dListRg, dIndex, dSortSet, dSortSc, dEnum, dZip, dIsi, dIsi2, isaT, φI, φB, φC, φNeg, add_i, add_l, add_t, mul_i, mul_l, φIx, sl_l, sl_t, eq_i, eq_s, eq_l, eq_t, eq_b, eq_n, φIsN, isN_n, isN_b, isN_i, isN_s, isN_l, isN_t, φLen, φList, φTuple, φAbs, φInt, φMax, φIsB, its_l, its_t, rd_sh, rd_nw, rd_br, rp_sh, rp_nw, rp_br, rp_bx, rp_raw, rp_sr, rr_sh, rr_nw, rr_br, ra_sh, ra_br, ra_bx, ra_raw, va_sh, va_nt, va_nf, va_raw, hb_n, hb_sh, hb_bx, hb_raw, hb_br, sh_n, sh_c, tr_n, tr_b, tr_i, tr_l, tr_t, ty_n, ty_b, ty_i, ty_s, ty_l, ty_t, if_ff, if_tt, Env.set, List.getElem?_cons_succ, List.getElem?_cons_zero, List.set_cons_succ, List.set_cons_zero, List.reverse_cons, List.reverse_nil, List.nil_append, List.cons_append, Option.bind_some, ite_true, ite_false]
  refine lc_all (fun r => .tuple (dI r)) (fun r : List Int => .int (((r.length : Int) + 1) ^ (r.length - 1))) RS [] (fun r hr K hK => ?_) (by show 0 + _ ≤ _; omega) ?_
  · have rl := (hR.mem h2 hr).2
    have rn : 0 < r.length := List.length_pos_iff.mpr (hR.mem h2 hr).1
    try dsimp only [dVar_, gv_sh, gv_ow, gv_bx, gv_raw, gv_st, dC, dRaw, dOp, dUn, dTest, dTruth, dAnd, dOr, dNot, dYes, dIf, dAndV, dOrV, dNotV, dNotT, dChain, dNil, dCons, dTup, dLst, dats, dCB, dNoP, dPart, dSl, dNext, dBreak, dCont, dNever, dDrop, dRet, dRetN, dIfS, dSetG, dPar, dPar3, dAppend, dAppPop, dSetIx, dExt, dAug, dSet0, dSAdd, dSNotIn, dIter_, gi_l, gi_t, gi_b, dRng1, dRng2, dName, dGNil, dGCons, dGTup, dAsg, dFor, dWhile, dCall, dCallR, dArgs_, ga_f, ga_t, argsOf, dLc, wipeE, dListRg, dIndex, dSortSet, dSortSc, dEnum, dZip, dIsi, dIsi2, isaT, φI, φB, φC, φNeg, add_i, add_l, add_t, mul_i, mul_l, φIx, sl_l, sl_t, eq_i, eq_s, eq_l, eq_t, eq_b, eq_n, φIsN, isN_n, isN_b, isN_i, isN_s, isN_l, isN_t, φLen, φList, φTuple, φAbs, φInt, φMax, φIsB, its_l, its_t, rd_sh, rd_nw, rd_br, rp_sh, rp_nw, rp_br, rp_bx, rp_raw, rp_sr, rr_sh, rr_nw, rr_br, ra_sh, ra_br, ra_bx, ra_raw, va_sh, va_nt, va_nf, va_raw, hb_n, hb_sh, hb_bx, hb_raw, hb_br, sh_n, sh_c, tr_n, tr_b, tr_i, tr_l, tr_t, ty_n, ty_b, ty_i, ty_s, ty_l, ty_t, if_ff, if_tt, Env.set, List.getElem?_cons_succ, List.getElem?_cons_zero, List.set_cons_succ, List.set_cons_zero, List.reverse_cons, List.reverse_nil, List.nil_append, List.cons_append, Option.bind_some, ite_true, ite_false]
    rw [dI_len]
    have et : ((r.length : Int) - 1).toNat = r.length - 1 := by omega
    refine ⟨⟨by omega, by omega, show 1 * _ ≤ 16777216 by omega⟩, ?_⟩
    rw [rep_one, et]
    refine ⟨.list _, _, 6, rfl, rfl, fun f hf => ?_, by rw [List.length_replicate]; omega, ?_⟩
    · rw [List.eq_of_mem_replicate hf]; omega
    · rw [prodL_rep]
      exact hK _ _ rfl rfl
  try dsimp only [dVar_, gv_sh, gv_ow, gv_bx, gv_raw, gv_st, dC, dRaw, dOp, dUn, dTest, dTruth, dAnd, dOr, dNot, dYes, dIf, dAndV, dOrV, dNotV, dNotT, dChain, dNil, dCons, dTup, dLst, dats, dCB, dNoP, dPart, dSl, dNext, dBreak, dCont, dNever, dDrop, dRet, dRetN, dIfS, dSetG, dPar, dPar3, dAppend, dAppPop, dSetIx, dExt, dAug, dSet0, dSAdd, dSNotIn, dIter_, gi_l, gi_t, gi_b, dRng1, dRng2, dName, dGNil, dGCons, dGTup, dAsg, dFor, dWhile, dCall, dCallR, dArgs_, ga_f, ga_t, argsOf, dLc, wipeE, dListRg, dIndex, dSortSet, dSortSc, dEnum, dZip, dIsi, dIsi2, isaT, φI, φB, φC, φNeg, add_i, add_l, add_t, mul_i, mul_l, φIx, sl_l, sl_t, eq_i, eq_s, eq_l, eq_t, eq_b, eq_n, φIsN, isN_n, isN_b, isN_i, isN_s, isN_l, isN_t, φLen, φList, φTuple, φAbs, φInt, φMax, φIsB, its_l, its_t, rd_sh, rd_nw, rd_br, rp_sh, rp_nw, rp_br, rp_bx, rp_raw, rp_sr, rr_sh, rr_nw, rr_br, ra_sh, ra_br, ra_bx, ra_raw, va_sh, va_nt, va_nf, va_raw, hb_n, hb_sh, hb_bx, hb_raw, hb_br, sh_n, sh_c, tr_n, tr_b, tr_i, tr_l, tr_t, ty_n, ty_b, ty_i, ty_s, ty_l, ty_t, if_ff, if_tt, Env.set, List.getElem?_cons_succ, List.getElem?_cons_zero, List.set_cons_succ, List.set_cons_zero, List.reverse_cons, List.reverse_nil, List.nil_append, List.cons_append, Option.bind_some, ite_true, ite_false]
  refine hD _ ?_
  have ei : RS.map (fun r : List Int => PyData.int (((r.length : Int) + 1) ^ (r.length - 1))) = dI (insF RS) := dI_len1 _ _
  rw [ei]
  obtain ⟨ob, ol⟩ := out_bd h2 h3
  have il : (insF RS).length = RS.length := List.length_map ..
  try dsimp only [dVar_, gv_sh, gv_ow, gv_bx, gv_raw, gv_st, dC, dRaw, dOp, dUn, dTest, dTruth, dAnd, dOr, dNot, dYes, dIf, dAndV, dOrV, dNotV, dNotT, dChain, dNil, dCons, dTup, dLst, dats, dCB, dNoP, dPart, dSl, dNext, dBreak, dCont, dNever, dDrop, dRet, dRetN, dIfS, dSetG, dPar, dPar3, dAppend, dAppPop, dSetIx, dExt, dAug, dSet0, dSAdd, dSNotIn, dIter_, gi_l, gi_t, gi_b, dRng1, dRng2, dName, dGNil, dGCons, dGTup, dAsg, dFor, dWhile, dCall, dCallR, dArgs_, ga_f, ga_t, argsOf, dLc, wipeE, dListRg, dIndex, dSortSet, dSortSc, dEnum, dZip, dIsi, dIsi2, isaT, φI, φB, φC, φNeg, add_i, add_l, add_t, mul_i, mul_l, φIx, sl_l, sl_t, eq_i, eq_s, eq_l, eq_t, eq_b, eq_n, φIsN, isN_n, isN_b, isN_i, isN_s, isN_l, isN_t, φLen, φList, φTuple, φAbs, φInt, φMax, φIsB, its_l, its_t, rd_sh, rd_nw, rd_br, rp_sh, rp_nw, rp_br, rp_bx, rp_raw, rp_sr, rr_sh, rr_nw, rr_br, ra_sh, ra_br, ra_bx, ra_raw, va_sh, va_nt, va_nf, va_raw, hb_n, hb_sh, hb_bx, hb_raw, hb_br, sh_n, sh_c, tr_n, tr_b, tr_i, tr_l, tr_t, ty_n, ty_b, ty_i, ty_s, ty_l, ty_t, if_ff, if_tt, Env.set, List.getElem?_cons_succ, List.getElem?_cons_zero, List.set_cons_succ, List.set_cons_zero, List.reverse_cons, List.reverse_nil, List.nil_append, List.cons_append, Option.bind_some, ite_true, ite_false]
  refine ⟨.list _, _, 6, rfl, rfl, ob, by omega, ?_⟩
  try dsimp only [dVar_, gv_sh, gv_ow, gv_bx, gv_raw, gv_st, dC, dRaw, dOp, dUn, dTest, dTruth, dAnd, dOr, dNot, dYes, dIf, dAndV, dOrV, dNotV, dNotT, dChain, dNil, dCons, dTup, dLst, dats, dCB, dNoP, dPart, dSl, dNext, dBreak, dCont, dNever, dDrop, dRet, dRetN, dIfS, dSetG, dPar, dPar3, dAppend, dAppPop, dSetIx, dExt, dAug, dSet0, dSAdd, dSNotIn, dIter_, gi_l, gi_t, gi_b, dRng1, dRng2, dName, dGNil, dGCons, dGTup, dAsg, dFor, dWhile, dCall, dCallR, dArgs_, ga_f, ga_t, argsOf, dLc, wipeE, dListRg, dIndex, dSortSet, dSortSc, dEnum, dZip, dIsi, dIsi2, isaT, φI, φB, φC, φNeg, add_i, add_l, add_t, mul_i, mul_l, φIx, sl_l, sl_t, eq_i, eq_s, eq_l, eq_t, eq_b, eq_n, φIsN, isN_n, isN_b, isN_i, isN_s, isN_l, isN_t, φLen, φList, φTuple, φAbs, φInt, φMax, φIsB, its_l, its_t, rd_sh, rd_nw, rd_br, rp_sh, rp_nw, rp_br, rp_bx, rp_raw, rp_sr, rr_sh, rr_nw, rr_br, ra_sh, ra_br, ra_bx, ra_raw, va_sh, va_nt, va_nf, va_raw, hb_n, hb_sh, hb_bx, hb_raw, hb_br, sh_n, sh_c, tr_n, tr_b, tr_i, tr_l, tr_t, ty_n, ty_b, ty_i, ty_s, ty_l, ty_t, if_ff, if_tt, Env.set, List.getElem?_cons_succ, List.getElem?_cons_zero, List.set_cons_succ, List.set_cons_zero, List.reverse_cons, List.reverse_nil, List.nil_append, List.cons_append, Option.bind_some, ite_true, ite_false]
  refine ⟨.list _, _, 361, rfl, rfl, hb, by omega, ?_⟩
  try dsimp only [dVar_, gv_sh, gv_ow, gv_bx, gv_raw, gv_st, dC, dRaw, dOp, dUn, dTest, dTruth, dAnd, dOr, dNot, dYes, dIf, dAndV, dOrV, dNotV, dNotT, dChain, dNil, dCons, dTup, dLst, dats, dCB, dNoP, dPart, dSl, dNext, dBreak, dCont, dNever, dDrop, dRet, dRetN, dIfS, dSetG, dPar, dPar3, dAppend, dAppPop, dSetIx, dExt, dAug, dSet0, dSAdd, dSNotIn, dIter_, gi_l, gi_t, gi_b, dRng1, dRng2, dName, dGNil, dGCons, dGTup, dAsg, dFor, dWhile, dCall, dCallR, dArgs_, ga_f, ga_t, argsOf, dLc, wipeE, dListRg, dIndex, dSortSet, dSortSc, dEnum, dZip, dIsi, dIsi2, isaT, φI, φB, φC, φNeg, add_i, add_l, add_t, mul_i, mul_l, φIx, sl_l, sl_t, eq_i, eq_s, eq_l, eq_t, eq_b, eq_n, φIsN, isN_n, isN_b, isN_i, isN_s, isN_l, isN_t, φLen, φList, φTuple, φAbs, φInt, φMax, φIsB, its_l, its_t, rd_sh, rd_nw, rd_br, rp_sh, rp_nw, rp_br, rp_bx, rp_raw, rp_sr, rr_sh, rr_nw, rr_br, ra_sh, ra_br, ra_bx, ra_raw, va_sh, va_nt, va_nf, va_raw, hb_n, hb_sh, hb_bx, hb_raw, hb_br, sh_n, sh_c, tr_n, tr_b, tr_i, tr_l, tr_t, ty_n, ty_b, ty_i, ty_s, ty_l, ty_t, if_ff, if_tt, Env.set, List.getElem?_cons_succ, List.getElem?_cons_zero, List.set_cons_succ, List.set_cons_zero, List.reverse_cons, List.reverse_nil, List.nil_append, List.cons_append, Option.bind_some, ite_true, ite_false]
  have po := prodL_bd ob
  have pi := prodL_bd hb
  exact ⟨mul_bits po.1 po.2 pi.1 pi.2 (by omega), q RS hR⟩
/-- _law_lots: _law_here, _law_found, _law_lap, _law_turn, _law_who, _law_met_here -/
def b_law_lots : DTS := (dSeq (dSetG false 1 (dC (.int 1)))
  (dSeq (dFor (dIter (dCall p_law_rings (dCons (dVar 0) dNil))) (dName 2) (dFor (dRng1 (dCons (dOp (φI fun i j => i - j) (dCB φLen (dCons (dVar 2) dNil)) (dC (.int 1))) dNil)) (dName 3) (dSetG false 1 (dOp φMul (dVar 1) (dOp φAdd (dCB φLen (dCons (dVar 2) dNil)) (dC (.int 1)))))))
  (dSeq (dFor (dRng1 (dCons (dCB φLen (dCons (dVar 0) dNil)) dNil)) (dName 4) (dSeq (dSetG false 5 (dCall p_law_met (dCons (dVar 0) (dCons (dVar 4) dNil))))
  (dSetG false 1 (dOp φMul (dVar 1) (dIf (dTest (dOp (φIn false) (dVar 4) (dVar 5))) (dC (.int 1)) (dCB φLen (dCons (dVar 5) dNil)))))))
  (dRet (dVar 1)))))
abbrev k_law_lots : Nat := 5
def p_law_lots : DSp := p_futures_many
theorem mon_law_lots : MonF p_law_lots := mon_futures_many
theorem lots_in {x0 x4 x5 : SV} {r : List Int} {Δ : DEnds} {c : Nat} {p : DTS} (hp : p = dSetG false 1 (dOp φMul (dVar 1) (dOp φAdd (dCB φLen (dCons (dVar 2) dNil)) (dC (.int 1))))) (hr : r.length ≤ 60) :
    ∀ (js : List PyData) (a : Int) (k : Nat) (y : SV), 0 ≤ a → a ≤ 2 ^ k → k + 6 * js.length < 900000 → (∀ y, Δ.nx ⟨[x0, .sh (.int (a * ((r.length : Int) + 1) ^ js.length)), .sh (.tuple (dI r)), y, x4, x5], c⟩) →
      forD (dName 3) p Δ js ⟨[x0, .sh (.int a), .sh (.tuple (dI r)), y, x4, x5], c⟩
  | [], a, k, y, _, _, _, q => by
    have := q y
    rw [List.length_nil, Int.pow_zero, Int.mul_one] at this
    exact this
  | j :: js, a, k, y, h0, h1, h2, q => by
    rw [List.length_cons] at h2
    refine for_cons ?_
    subst hp
    try dsimp only [dVar_, gv_sh, gv_ow, gv_bx, gv_raw, gv_st, dC, dRaw, dOp, dUn, dTest, dTruth, dAnd, dOr, dNot, dYes, dIf, dAndV, dOrV, dNotV, dNotT, dChain, dNil, dCons, dTup, dLst, dats, dCB, dNoP, dPart, dSl, dNext, dBreak, dCont, dNever, dDrop, dRet, dRetN, dIfS, dSetG, dPar, dPar3, dAppend, dAppPop, dSetIx, dExt, dAug, dSet0, dSAdd, dSNotIn, dIter_, gi_l, gi_t, gi_b, dRng1, dRng2, dName, dGNil, dGCons, dGTup, dAsg, dFor, dWhile, dCall, dCallR, dArgs_, ga_f, ga_t, argsOf, dLc, wipeE, dListRg, dIndex, dSortSet, dSortSc, dEnum, dZip, dIsi, dIsi2, isaT, φI, φB, φC, φNeg, add_i, add_l, add_t, mul_i, mul_l, φIx, sl_l, sl_t, eq_i, eq_s, eq_l, eq_t, eq_b, eq_n, φIsN, isN_n, isN_b, isN_i, isN_s, isN_l, isN_t, φLen, φList, φTuple, φAbs, φInt, φMax, φIsB, its_l, its_t, rd_sh, rd_nw, rd_br, rp_sh, rp_nw, rp_br, rp_bx, rp_raw, rp_sr, rr_sh, rr_nw, rr_br, ra_sh, ra_br, ra_bx, ra_raw, va_sh, va_nt, va_nf, va_raw, hb_n, hb_sh, hb_bx, hb_raw, hb_br, sh_n, sh_c, tr_n, tr_b, tr_i, tr_l, tr_t, ty_n, ty_b, ty_i, ty_s, ty_l, ty_t, if_ff, if_tt, Env.set, List.getElem?_cons_succ, List.getElem?_cons_zero, List.set_cons_succ, List.set_cons_zero, List.reverse_cons, List.reverse_nil, List.nil_append, List.cons_append, Option.bind_some, ite_true, ite_false]
    rw [dI_len]
    refine ⟨mul_bits (k := 6) h0 h1 (by omega) (by omega) (by omega), ?_⟩
    refine lots_in rfl hr js _ (k + 6) _ (Int.mul_nonneg h0 (by omega)) ?_ (by omega) fun y => ?_
    · rw [Int.pow_add]
      exact Int.mul_le_mul h1 (by omega) (by omega) (Int.le_of_lt (Int.pow_pos (by decide)))
    · have := q y
      rw [List.length_cons, Int.pow_succ, Int.mul_comm (((r.length : Int) + 1) ^ js.length), ← Int.mul_assoc] at this
      exact this
theorem lots_rings {x0 x4 x5 : SV} {Δ : DEnds} {c : Nat} {p : DTS} (hp : p = (dFor (dRng1 (dCons (dOp (φI fun i j => i - j) (dCB φLen (dCons (dVar 2) dNil)) (dC (.int 1))) dNil)) (dName 3) (dSetG false 1 (dOp φMul (dVar 1) (dOp φAdd (dCB φLen (dCons (dVar 2) dNil)) (dC (.int 1))))))) :
    ∀ (RS : List (List Int)) (a : Int) (k : Nat) (y z : SV), (∀ r ∈ RS, r ≠ [] ∧ r.length ≤ 60) → 0 ≤ a → a ≤ 2 ^ k → k + 361 * RS.length < 800000 → (∀ y z, Δ.nx ⟨[x0, .sh (.int (a * prodL (insF RS))), y, z, x4, x5], c⟩) →
      forD (dName 2) p Δ (dT RS) ⟨[x0, .sh (.int a), y, z, x4, x5], c⟩
  | [], a, k, y, z, _, _, _, _, q => by
    have := q y z
    rw [show prodL (insF []) = 1 from rfl, Int.mul_one] at this
    exact this
  | r :: RS, a, k, y, z, h, h0, h1, h2, q => by
    rw [List.length_cons] at h2
    obtain ⟨rn, rl⟩ := h r List.mem_cons_self
    have rn : 0 < r.length := List.length_pos_iff.mpr rn
    refine for_cons ?_
    rw [hp]
    try dsimp only [dVar_, gv_sh, gv_ow, gv_bx, gv_raw, gv_st, dC, dRaw, dOp, dUn, dTest, dTruth, dAnd, dOr, dNot, dYes, dIf, dAndV, dOrV, dNotV, dNotT, dChain, dNil, dCons, dTup, dLst, dats, dCB, dNoP, dPart, dSl, dNext, dBreak, dCont, dNever, dDrop, dRet, dRetN, dIfS, dSetG, dPar, dPar3, dAppend, dAppPop, dSetIx, dExt, dAug, dSet0, dSAdd, dSNotIn, dIter_, gi_l, gi_t, gi_b, dRng1, dRng2, dName, dGNil, dGCons, dGTup, dAsg, dFor, dWhile, dCall, dCallR, dArgs_, ga_f, ga_t, argsOf, dLc, wipeE, dListRg, dIndex, dSortSet, dSortSc, dEnum, dZip, dIsi, dIsi2, isaT, φI, φB, φC, φNeg, add_i, add_l, add_t, mul_i, mul_l, φIx, sl_l, sl_t, eq_i, eq_s, eq_l, eq_t, eq_b, eq_n, φIsN, isN_n, isN_b, isN_i, isN_s, isN_l, isN_t, φLen, φList, φTuple, φAbs, φInt, φMax, φIsB, its_l, its_t, rd_sh, rd_nw, rd_br, rp_sh, rp_nw, rp_br, rp_bx, rp_raw, rp_sr, rr_sh, rr_nw, rr_br, ra_sh, ra_br, ra_bx, ra_raw, va_sh, va_nt, va_nf, va_raw, hb_n, hb_sh, hb_bx, hb_raw, hb_br, sh_n, sh_c, tr_n, tr_b, tr_i, tr_l, tr_t, ty_n, ty_b, ty_i, ty_s, ty_l, ty_t, if_ff, if_tt, Env.set, List.getElem?_cons_succ, List.getElem?_cons_zero, List.set_cons_succ, List.set_cons_zero, List.reverse_cons, List.reverse_nil, List.nil_append, List.cons_append, Option.bind_some, ite_true, ite_false]
    rw [dI_len]
    refine ⟨by omega, rfl, ?_⟩
    have el : (rgD 0 ((r.length : Int) - 1).toNat).length = r.length - 1 := by unfold rgD; rw [List.length_map, List.length_range]; omega
    have hb := ins_bd (n := 0) (RS := [r]) (fun s hs => by rw [List.mem_singleton.mp hs]; exact rl) _ List.mem_cons_self
    refine lots_in rfl rl _ a k _ h0 h1 (by omega) fun y => ?_
    rw [el]
    dsimp only
    rw [← hp]
    refine lots_rings hp RS _ (k + 361) _ _ (fun s hs => h s (List.mem_cons_of_mem _ hs)) (Int.mul_nonneg h0 hb.1) ?_ (by omega) fun y z => ?_
    · rw [Int.pow_add]
      exact Int.mul_le_mul h1 (Int.le_of_lt hb.2) hb.1 (Int.le_of_lt (Int.pow_pos (by decide)))
    · have := q y z
      rw [show insF (r :: RS) = ((r.length : Int) + 1) ^ (r.length - 1) :: insF RS from rfl, prodL_cons, ← Int.mul_assoc] at this
      exact this
/-- what the people off the rings bring -/
def outN (ns : List Int) (js : List Nat) : List Int := (js.filter fun i : Nat => decide (0 < heightF ns (i : Int))).map fun i : Nat => ((routeF ns (gt ns (i : Int))).length : Int)
theorem lots_people {d : PyData} {ns : List Int} (hd : PyData.its d = some (dI ns)) (hs : Stt ns) (hl : ns.length ≤ 60) {x2 x3 : SV} {Δ : DEnds} {c : Nat} {p : DTS} (hp : p = (dSeq (dSetG false 5 (dCall p_law_met (dCons (dVar 0) (dCons (dVar 4) dNil)))) (dSetG false 1 (dOp φMul (dVar 1) (dIf (dTest (dOp (φIn false) (dVar 4) (dVar 5))) (dC (.int 1)) (dCB φLen (dCons (dVar 5) dNil))))))) :
    ∀ (js : List Nat) (a : Int) (k : Nat) (y z : SV), (∀ j ∈ js, j < ns.length) → 0 ≤ a → a ≤ 2 ^ k → k + 6 * js.length < 900000 → (∀ y z, Δ.nx ⟨[.sh d, .sh (.int (a * prodL (outN ns js))), x2, x3, y, z], c⟩) →
      forD (dName 4) p Δ (js.map fun i : Nat => .int (i : Nat)) ⟨[.sh d, .sh (.int a), x2, x3, y, z], c⟩
  | [], a, k, y, z, _, _, _, _, q => by
    have := q y z
    rw [show prodL (outN ns []) = 1 from rfl, Int.mul_one] at this
    exact this
  | j :: js, a, k, y, z, h, h0, h1, h2, q => by
    rw [List.length_cons] at h2
    have hj := per_nat (h j List.mem_cons_self)
    have rl := (route_len hs (hs.gt hj)).2
    rw [List.map_cons]
    refine for_cons ?_
    rw [hp]
    refine sqa_ fun D hD => ?_
    try dsimp only [dVar_, gv_sh, gv_ow, gv_bx, gv_raw, gv_st, dC, dRaw, dOp, dUn, dTest, dTruth, dAnd, dOr, dNot, dYes, dIf, dAndV, dOrV, dNotV, dNotT, dChain, dNil, dCons, dTup, dLst, dats, dCB, dNoP, dPart, dSl, dNext, dBreak, dCont, dNever, dDrop, dRet, dRetN, dIfS, dSetG, dPar, dPar3, dAppend, dAppPop, dSetIx, dExt, dAug, dSet0, dSAdd, dSNotIn, dIter_, gi_l, gi_t, gi_b, dRng1, dRng2, dName, dGNil, dGCons, dGTup, dAsg, dFor, dWhile, dCall, dCallR, dArgs_, ga_f, ga_t, argsOf, dLc, wipeE, dListRg, dIndex, dSortSet, dSortSc, dEnum, dZip, dIsi, dIsi2, isaT, φI, φB, φC, φNeg, add_i, add_l, add_t, mul_i, mul_l, φIx, sl_l, sl_t, eq_i, eq_s, eq_l, eq_t, eq_b, eq_n, φIsN, isN_n, isN_b, isN_i, isN_s, isN_l, isN_t, φLen, φList, φTuple, φAbs, φInt, φMax, φIsB, its_l, its_t, rd_sh, rd_nw, rd_br, rp_sh, rp_nw, rp_br, rp_bx, rp_raw, rp_sr, rr_sh, rr_nw, rr_br, ra_sh, ra_br, ra_bx, ra_raw, va_sh, va_nt, va_nf, va_raw, hb_n, hb_sh, hb_bx, hb_raw, hb_br, sh_n, sh_c, tr_n, tr_b, tr_i, tr_l, tr_t, ty_n, ty_b, ty_i, ty_s, ty_l, ty_t, if_ff, if_tt, Env.set, List.getElem?_cons_succ, List.getElem?_cons_zero, List.set_cons_succ, List.set_cons_zero, List.reverse_cons, List.reverse_nil, List.nil_append, List.cons_append, Option.bind_some, ite_true, ite_false]
    refine c_met hd hs hj ?_
    try dsimp only [dVar_, gv_sh, gv_ow, gv_bx, gv_raw, gv_st, dC, dRaw, dOp, dUn, dTest, dTruth, dAnd, dOr, dNot, dYes, dIf, dAndV, dOrV, dNotV, dNotT, dChain, dNil, dCons, dTup, dLst, dats, dCB, dNoP, dPart, dSl, dNext, dBreak, dCont, dNever, dDrop, dRet, dRetN, dIfS, dSetG, dPar, dPar3, dAppend, dAppPop, dSetIx, dExt, dAug, dSet0, dSAdd, dSNotIn, dIter_, gi_l, gi_t, gi_b, dRng1, dRng2, dName, dGNil, dGCons, dGTup, dAsg, dFor, dWhile, dCall, dCallR, dArgs_, ga_f, ga_t, argsOf, dLc, wipeE, dListRg, dIndex, dSortSet, dSortSc, dEnum, dZip, dIsi, dIsi2, isaT, φI, φB, φC, φNeg, add_i, add_l, add_t, mul_i, mul_l, φIx, sl_l, sl_t, eq_i, eq_s, eq_l, eq_t, eq_b, eq_n, φIsN, isN_n, isN_b, isN_i, isN_s, isN_l, isN_t, φLen, φList, φTuple, φAbs, φInt, φMax, φIsB, its_l, its_t, rd_sh, rd_nw, rd_br, rp_sh, rp_nw, rp_br, rp_bx, rp_raw, rp_sr, rr_sh, rr_nw, rr_br, ra_sh, ra_br, ra_bx, ra_raw, va_sh, va_nt, va_nf, va_raw, hb_n, hb_sh, hb_bx, hb_raw, hb_br, sh_n, sh_c, tr_n, tr_b, tr_i, tr_l, tr_t, ty_n, ty_b, ty_i, ty_s, ty_l, ty_t, if_ff, if_tt, Env.set, List.getElem?_cons_succ, List.getElem?_cons_zero, List.set_cons_succ, List.set_cons_zero, List.reverse_cons, List.reverse_nil, List.nil_append, List.cons_append, Option.bind_some, ite_true, ite_false]
    refine hD _ ?_
    try dsimp only [dVar_, gv_sh, gv_ow, gv_bx, gv_raw, gv_st, dC, dRaw, dOp, dUn, dTest, dTruth, dAnd, dOr, dNot, dYes, dIf, dAndV, dOrV, dNotV, dNotT, dChain, dNil, dCons, dTup, dLst, dats, dCB, dNoP, dPart, dSl, dNext, dBreak, dCont, dNever, dDrop, dRet, dRetN, dIfS, dSetG, dPar, dPar3, dAppend, dAppPop, dSetIx, dExt, dAug, dSet0, dSAdd, dSNotIn, dIter_, gi_l, gi_t, gi_b, dRng1, dRng2, dName, dGNil, dGCons, dGTup, dAsg, dFor, dWhile, dCall, dCallR, dArgs_, ga_f, ga_t, argsOf, dLc, wipeE, dListRg, dIndex, dSortSet, dSortSc, dEnum, dZip, dIsi, dIsi2, isaT, φI, φB, φC, φNeg, add_i, add_l, add_t, mul_i, mul_l, φIx, sl_l, sl_t, eq_i, eq_s, eq_l, eq_t, eq_b, eq_n, φIsN, isN_n, isN_b, isN_i, isN_s, isN_l, isN_t, φLen, φList, φTuple, φAbs, φInt, φMax, φIsB, its_l, its_t, rd_sh, rd_nw, rd_br, rp_sh, rp_nw, rp_br, rp_bx, rp_raw, rp_sr, rr_sh, rr_nw, rr_br, ra_sh, ra_br, ra_bx, ra_raw, va_sh, va_nt, va_nf, va_raw, hb_n, hb_sh, hb_bx, hb_raw, hb_br, sh_n, sh_c, tr_n, tr_b, tr_i, tr_l, tr_t, ty_n, ty_b, ty_i, ty_s, ty_l, ty_t, if_ff, if_tt, Env.set, List.getElem?_cons_succ, List.getElem?_cons_zero, List.set_cons_succ, List.set_cons_zero, List.reverse_cons, List.reverse_nil, List.nil_append, List.cons_append, Option.bind_some, ite_true, ite_false]
    refine φIn_dI (its_l _) ?_
    try dsimp only [dVar_, gv_sh, gv_ow, gv_bx, gv_raw, gv_st, dC, dRaw, dOp, dUn, dTest, dTruth, dAnd, dOr, dNot, dYes, dIf, dAndV, dOrV, dNotV, dNotT, dChain, dNil, dCons, dTup, dLst, dats, dCB, dNoP, dPart, dSl, dNext, dBreak, dCont, dNever, dDrop, dRet, dRetN, dIfS, dSetG, dPar, dPar3, dAppend, dAppPop, dSetIx, dExt, dAug, dSet0, dSAdd, dSNotIn, dIter_, gi_l, gi_t, gi_b, dRng1, dRng2, dName, dGNil, dGCons, dGTup, dAsg, dFor, dWhile, dCall, dCallR, dArgs_, ga_f, ga_t, argsOf, dLc, wipeE, dListRg, dIndex, dSortSet, dSortSc, dEnum, dZip, dIsi, dIsi2, isaT, φI, φB, φC, φNeg, add_i, add_l, add_t, mul_i, mul_l, φIx, sl_l, sl_t, eq_i, eq_s, eq_l, eq_t, eq_b, eq_n, φIsN, isN_n, isN_b, isN_i, isN_s, isN_l, isN_t, φLen, φList, φTuple, φAbs, φInt, φMax, φIsB, its_l, its_t, rd_sh, rd_nw, rd_br, rp_sh, rp_nw, rp_br, rp_bx, rp_raw, rp_sr, rr_sh, rr_nw, rr_br, ra_sh, ra_br, ra_bx, ra_raw, va_sh, va_nt, va_nf, va_raw, hb_n, hb_sh, hb_bx, hb_raw, hb_br, sh_n, sh_c, tr_n, tr_b, tr_i, tr_l, tr_t, ty_n, ty_b, ty_i, ty_s, ty_l, ty_t, if_ff, if_tt, Env.set, List.getElem?_cons_succ, List.getElem?_cons_zero, List.set_cons_succ, List.set_cons_zero, List.reverse_cons, List.reverse_nil, List.nil_append, List.cons_append, Option.bind_some, ite_true, ite_false]
    refine it_2 (fun e => ?_) fun e => ?_
    · have e0 := (high_iff hs hj).mpr e
      refine ⟨mul_bits (k := 6) h0 h1 (by decide) (by decide) (by omega), ?_⟩
      rw [← hp, Int.mul_one]
      refine lots_people hd hs hl hp js a k _ _ (fun i hi => h i (List.mem_cons_of_mem _ hi)) h0 h1 (by omega) fun y z => ?_
      have := q y z
      rw [show outN ns (j :: js) = outN ns js by unfold outN; rw [List.filter_cons_of_neg (by rw [e0]; decide)]] at this
      exact this
    · have e0 : 0 < heightF ns (j : Int) := Nat.pos_of_ne_zero fun z => e ((high_iff hs hj).mp z)
      rw [dI_len]
      refine ⟨mul_bits (k := 6) h0 h1 (by omega) (by omega) (by omega), ?_⟩
      rw [← hp]
      refine lots_people hd hs hl hp js _ (k + 6) _ _ (fun i hi => h i (List.mem_cons_of_mem _ hi)) (Int.mul_nonneg h0 (by omega)) ?_ (by omega) fun y z => ?_
      · rw [Int.pow_add]
        exact Int.mul_le_mul h1 (by omega) (by omega) (Int.le_of_lt (Int.pow_pos (by decide)))
      · have := q y z
        rw [show outN ns (j :: js) = ((routeF ns (gt ns (j : Int))).length : Int) :: outN ns js by unfold outN; rw [List.filter_cons_of_pos (p := fun i : Nat => decide (0 < heightF ns (i : Int))) (decide_eq_true e0)]; rfl, prodL_cons, ← Int.mul_assoc] at this
        exact this
theorem m_law_lots : ∀ args c Q, p_law_lots args c Q → defF k_law_lots b_law_lots args c Q := by
  rintro _ c Q ⟨d, ns, rfl, h1, h2, h3, q⟩
  show b_law_lots _ ⟨[.sh d, .un, .un, .un, .un, .un], c⟩
  unfold b_law_lots
  refine sq_ ?_
  try dsimp only [dVar_, gv_sh, gv_ow, gv_bx, gv_raw, gv_st, dC, dRaw, dOp, dUn, dTest, dTruth, dAnd, dOr, dNot, dYes, dIf, dAndV, dOrV, dNotV, dNotT, dChain, dNil, dCons, dTup, dLst, dats, dCB, dNoP, dPart, dSl, dNext, dBreak, dCont, dNever, dDrop, dRet, dRetN, dIfS, dSetG, dPar, dPar3, dAppend, dAppPop, dSetIx, dExt, dAug, dSet0, dSAdd, dSNotIn, dIter_, gi_l, gi_t, gi_b, dRng1, dRng2, dName, dGNil, dGCons, dGTup, dAsg, dFor, dWhile, dCall, dCallR, dArgs_, ga_f, ga_t, argsOf, dLc, wipeE, dListRg, dIndex, dSortSet, dSortSc, dEnum, dZip, dIsi, dIsi2, isaT, φI, φB, φC, φNeg, add_i, add_l, add_t, mul_i, mul_l, φIx, sl_l, sl_t, eq_i, eq_s, eq_l, eq_t, eq_b, eq_n, φIsN, isN_n, isN_b, isN_i, isN_s, isN_l, isN_t, φLen, φList, φTuple, φAbs, φInt, φMax, φIsB, its_l, its_t, rd_sh, rd_nw, rd_br, rp_sh, rp_nw, rp_br, rp_bx, rp_raw, rp_sr, rr_sh, rr_nw, rr_br, ra_sh, ra_br, ra_bx, ra_raw, va_sh, va_nt, va_nf, va_raw, hb_n, hb_sh, hb_bx, hb_raw, hb_br, sh_n, sh_c, tr_n, tr_b, tr_i, tr_l, tr_t, ty_n, ty_b, ty_i, ty_s, ty_l, ty_t, if_ff, if_tt, Env.set, List.getElem?_cons_succ, List.getElem?_cons_zero, List.set_cons_succ, List.set_cons_zero, List.reverse_cons, List.reverse_nil, List.nil_append, List.cons_append, Option.bind_some, ite_true, ite_false]
  refine sqa_ fun D hD => ?_
  try dsimp only [dVar_, gv_sh, gv_ow, gv_bx, gv_raw, gv_st, dC, dRaw, dOp, dUn, dTest, dTruth, dAnd, dOr, dNot, dYes, dIf, dAndV, dOrV, dNotV, dNotT, dChain, dNil, dCons, dTup, dLst, dats, dCB, dNoP, dPart, dSl, dNext, dBreak, dCont, dNever, dDrop, dRet, dRetN, dIfS, dSetG, dPar, dPar3, dAppend, dAppPop, dSetIx, dExt, dAug, dSet0, dSAdd, dSNotIn, dIter_, gi_l, gi_t, gi_b, dRng1, dRng2, dName, dGNil, dGCons, dGTup, dAsg, dFor, dWhile, dCall, dCallR, dArgs_, ga_f, ga_t, argsOf, dLc, wipeE, dListRg, dIndex, dSortSet, dSortSc, dEnum, dZip, dIsi, dIsi2, isaT, φI, φB, φC, φNeg, add_i, add_l, add_t, mul_i, mul_l, φIx, sl_l, sl_t, eq_i, eq_s, eq_l, eq_t, eq_b, eq_n, φIsN, isN_n, isN_b, isN_i, isN_s, isN_l, isN_t, φLen, φList, φTuple, φAbs, φInt, φMax, φIsB, its_l, its_t, rd_sh, rd_nw, rd_br, rp_sh, rp_nw, rp_br, rp_bx, rp_raw, rp_sr, rr_sh, rr_nw, rr_br, ra_sh, ra_br, ra_bx, ra_raw, va_sh, va_nt, va_nf, va_raw, hb_n, hb_sh, hb_bx, hb_raw, hb_br, sh_n, sh_c, tr_n, tr_b, tr_i, tr_l, tr_t, ty_n, ty_b, ty_i, ty_s, ty_l, ty_t, if_ff, if_tt, Env.set, List.getElem?_cons_succ, List.getElem?_cons_zero, List.set_cons_succ, List.set_cons_zero, List.reverse_cons, List.reverse_nil, List.nil_append, List.cons_append, Option.bind_some, ite_true, ite_false]
  refine c_rings h1 h2 (by omega) fun RS hR => ?_
  have hRl := hR.len
  try dsimp only [dVar_, gv_sh, gv_ow, gv_bx, gv_raw, gv_st, dC, dRaw, dOp, dUn, dTest, dTruth, dAnd, dOr, dNot, dYes, dIf, dAndV, dOrV, dNotV, dNotT, dChain, dNil, dCons, dTup, dLst, dats, dCB, dNoP, dPart, dSl, dNext, dBreak, dCont, dNever, dDrop, dRet, dRetN, dIfS, dSetG, dPar, dPar3, dAppend, dAppPop, dSetIx, dExt, dAug, dSet0, dSAdd, dSNotIn, dIter_, gi_l, gi_t, gi_b, dRng1, dRng2, dName, dGNil, dGCons, dGTup, dAsg, dFor, dWhile, dCall, dCallR, dArgs_, ga_f, ga_t, argsOf, dLc, wipeE, dListRg, dIndex, dSortSet, dSortSc, dEnum, dZip, dIsi, dIsi2, isaT, φI, φB, φC, φNeg, add_i, add_l, add_t, mul_i, mul_l, φIx, sl_l, sl_t, eq_i, eq_s, eq_l, eq_t, eq_b, eq_n, φIsN, isN_n, isN_b, isN_i, isN_s, isN_l, isN_t, φLen, φList, φTuple, φAbs, φInt, φMax, φIsB, its_l, its_t, rd_sh, rd_nw, rd_br, rp_sh, rp_nw, rp_br, rp_bx, rp_raw, rp_sr, rr_sh, rr_nw, rr_br, ra_sh, ra_br, ra_bx, ra_raw, va_sh, va_nt, va_nf, va_raw, hb_n, hb_sh, hb_bx, hb_raw, hb_br, sh_n, sh_c, tr_n, tr_b, tr_i, tr_l, tr_t, ty_n, ty_b, ty_i, ty_s, ty_l, ty_t, if_ff, if_tt, Env.set, List.getElem?_cons_succ, List.getElem?_cons_zero, List.set_cons_succ, List.set_cons_zero, List.reverse_cons, List.reverse_nil, List.nil_append, List.cons_append, Option.bind_some, ite_true, ite_false]
  have hb := ins_bd (n := ns.length) (RS := RS) fun r hr => Nat.le_trans (hR.mem h2 hr).2 h3
  have pi := prodL_bd hb
  have il : (insF RS).length = RS.length := List.length_map ..
  refine ⟨rfl, lots_rings rfl RS 1 0 _ _ (fun r hr => ⟨(hR.mem h2 hr).1, Nat.le_trans (hR.mem h2 hr).2 h3⟩) (by decide) (by decide) (by omega) fun y z => ?_⟩
  refine hD _ ?_
  rw [Int.one_mul]
  refine sqa_ fun D hD => ?_
  try dsimp only [dVar_, gv_sh, gv_ow, gv_bx, gv_raw, gv_st, dC, dRaw, dOp, dUn, dTest, dTruth, dAnd, dOr, dNot, dYes, dIf, dAndV, dOrV, dNotV, dNotT, dChain, dNil, dCons, dTup, dLst, dats, dCB, dNoP, dPart, dSl, dNext, dBreak, dCont, dNever, dDrop, dRet, dRetN, dIfS, dSetG, dPar, dPar3, dAppend, dAppPop, dSetIx, dExt, dAug, dSet0, dSAdd, dSNotIn, dIter_, gi_l, gi_t, gi_b, dRng1, dRng2, dName, dGNil, dGCons, dGTup, dAsg, dFor, dWhile, dCall, dCallR, dArgs_, ga_f, ga_t, argsOf, dLc, wipeE, dListRg, dIndex, dSortSet, dSortSc, dEnum, dZip, dIsi, dIsi2, isaT, φI, φB, φC, φNeg, add_i, add_l, add_t, mul_i, mul_l, φIx, sl_l, sl_t, eq_i, eq_s, eq_l, eq_t, eq_b, eq_n, φIsN, isN_n, isN_b, isN_i, isN_s, isN_l, isN_t, φLen, φList, φTuple, φAbs, φInt, φMax, φIsB, its_l, its_t, rd_sh, rd_nw, rd_br, rp_sh, rp_nw, rp_br, rp_bx, rp_raw, rp_sr, rr_sh, rr_nw, rr_br, ra_sh, ra_br, ra_bx, ra_raw, va_sh, va_nt, va_nf, va_raw, hb_n, hb_sh, hb_bx, hb_raw, hb_br, sh_n, sh_c, tr_n, tr_b, tr_i, tr_l, tr_t, ty_n, ty_b, ty_i, ty_s, ty_l, ty_t, if_ff, if_tt, Env.set, List.getElem?_cons_succ, List.getElem?_cons_zero, List.set_cons_succ, List.set_cons_zero, List.reverse_cons, List.reverse_nil, List.nil_append, List.cons_append, Option.bind_some, ite_true, ite_false]
  rw [h1]
  try dsimp only [dVar_, gv_sh, gv_ow, gv_bx, gv_raw, gv_st, dC, dRaw, dOp, dUn, dTest, dTruth, dAnd, dOr, dNot, dYes, dIf, dAndV, dOrV, dNotV, dNotT, dChain, dNil, dCons, dTup, dLst, dats, dCB, dNoP, dPart, dSl, dNext, dBreak, dCont, dNever, dDrop, dRet, dRetN, dIfS, dSetG, dPar, dPar3, dAppend, dAppPop, dSetIx, dExt, dAug, dSet0, dSAdd, dSNotIn, dIter_, gi_l, gi_t, gi_b, dRng1, dRng2, dName, dGNil, dGCons, dGTup, dAsg, dFor, dWhile, dCall, dCallR, dArgs_, ga_f, ga_t, argsOf, dLc, wipeE, dListRg, dIndex, dSortSet, dSortSc, dEnum, dZip, dIsi, dIsi2, isaT, φI, φB, φC, φNeg, add_i, add_l, add_t, mul_i, mul_l, φIx, sl_l, sl_t, eq_i, eq_s, eq_l, eq_t, eq_b, eq_n, φIsN, isN_n, isN_b, isN_i, isN_s, isN_l, isN_t, φLen, φList, φTuple, φAbs, φInt, φMax, φIsB, its_l, its_t, rd_sh, rd_nw, rd_br, rp_sh, rp_nw, rp_br, rp_bx, rp_raw, rp_sr, rr_sh, rr_nw, rr_br, ra_sh, ra_br, ra_bx, ra_raw, va_sh, va_nt, va_nf, va_raw, hb_n, hb_sh, hb_bx, hb_raw, hb_br, sh_n, sh_c, tr_n, tr_b, tr_i, tr_l, tr_t, ty_n, ty_b, ty_i, ty_s, ty_l, ty_t, if_ff, if_tt, Env.set, List.getElem?_cons_succ, List.getElem?_cons_zero, List.set_cons_succ, List.set_cons_zero, List.reverse_cons, List.reverse_nil, List.nil_append, List.cons_append, Option.bind_some, ite_true, ite_false]
  rw [dI_len]
  refine ⟨h2.rg, rfl, ?_⟩
  rw [Int.toNat_natCast, rg0]
  refine lots_people h1 h2 h3 rfl (List.range ns.length) _ (361 * (insF RS).length) _ _ (fun j hj => List.mem_range.mp hj) pi.1 pi.2 (by rw [List.length_range]; omega) fun y z => ?_
  refine hD _ ?_
  try dsimp only [dVar_, gv_sh, gv_ow, gv_bx, gv_raw, gv_st, dC, dRaw, dOp, dUn, dTest, dTruth, dAnd, dOr, dNot, dYes, dIf, dAndV, dOrV, dNotV, dNotT, dChain, dNil, dCons, dTup, dLst, dats, dCB, dNoP, dPart, dSl, dNext, dBreak, dCont, dNever, dDrop, dRet, dRetN, dIfS, dSetG, dPar, dPar3, dAppend, dAppPop, dSetIx, dExt, dAug, dSet0, dSAdd, dSNotIn, dIter_, gi_l, gi_t, gi_b, dRng1, dRng2, dName, dGNil, dGCons, dGTup, dAsg, dFor, dWhile, dCall, dCallR, dArgs_, ga_f, ga_t, argsOf, dLc, wipeE, dListRg, dIndex, dSortSet, dSortSc, dEnum, dZip, dIsi, dIsi2, isaT, φI, φB, φC, φNeg, add_i, add_l, add_t, mul_i, mul_l, φIx, sl_l, sl_t, eq_i, eq_s, eq_l, eq_t, eq_b, eq_n, φIsN, isN_n, isN_b, isN_i, isN_s, isN_l, isN_t, φLen, φList, φTuple, φAbs, φInt, φMax, φIsB, its_l, its_t, rd_sh, rd_nw, rd_br, rp_sh, rp_nw, rp_br, rp_bx, rp_raw, rp_sr, rr_sh, rr_nw, rr_br, ra_sh, ra_br, ra_bx, ra_raw, va_sh, va_nt, va_nf, va_raw, hb_n, hb_sh, hb_bx, hb_raw, hb_br, sh_n, sh_c, tr_n, tr_b, tr_i, tr_l, tr_t, ty_n, ty_b, ty_i, ty_s, ty_l, ty_t, if_ff, if_tt, Env.set, List.getElem?_cons_succ, List.getElem?_cons_zero, List.set_cons_succ, List.set_cons_zero, List.reverse_cons, List.reverse_nil, List.nil_append, List.cons_append, Option.bind_some, ite_true, ite_false]
  have := q RS hR
  rw [Int.mul_comm] at this
  exact this
/-! ### the law -/
/-- _law_right: _law_box_here, _law_here, _law_kept, _law_due -/
def b_k20_law_right : DTS := (dSeq (dSetG false 1 (dCall p_law_drawn (dCons (dVar 0) (dCons (dC (.int 40)) dNil))))
  (dSeq (dPar 2 false 3 false (dCB φRepr (dCons (dVar 1) dNil)) (dLst (dCons (dCall p_law_code (dCons (dVar 1) dNil)) (dCons (dCall p_law_lots (dCons (dVar 1) dNil)) dNil))))
  (dSeq (dIfS (dNot (dTruth (dCall (p_law_same_2 3) (dCons (dLst (dCons (dCall p_code_of (dCons (dVar 1) dNil)) (dCons (dCall p_futures_many (dCons (dVar 1) dNil)) dNil))) (dCons (dVar 3) dNil))))) (dRet (dC (.bool false))) dNext)
  (dRet (dAndV (dCall (p_law_same_2 3) (dCons (dLst (dCons (dCallR p_code_of (dCons (dCB φList (dCons (dVar 1) dNil)) dNil)) (dCons (dCallR p_futures_many (dCons (dCB φList (dCons (dVar 1) dNil)) dNil)) dNil))) (dCons (dVar 3) dNil))) (dOp (φEq false) (dCB φRepr (dCons (dVar 1) dNil)) (dVar 2)))))))
abbrev k_k20_law_right : Nat := 3
def p_k20_law_right : DSp := fun args c Q => args = [.bx] ∧ c ≤ 3000000 ∧ ∀ c', c' ≤ c + 1000000 → Q (.sh (.bool true)) c'
theorem mon_k20_law_right : MonF p_k20_law_right := fun args c A B h ⟨e, h1, q⟩ => ⟨e, h1, fun c' hc => h _ _ (q c' hc)⟩
theorem dep_dI {k : Nat} (ns : List Int) : (dI ns).all (dep (k + 1)) = true := by
  rw [List.all_eq_true]
  intro d hd
  obtain ⟨z, _, rfl⟩ := List.mem_map.mp hd
  rfl
theorem m_k20_law_right : ∀ args c Q, p_k20_law_right args c Q → defF k_k20_law_right b_k20_law_right args c Q := by
  rintro _ c Q ⟨rfl, h1, q⟩
  show b_k20_law_right _ ⟨[.bx, .un, .un, .un], c⟩
  unfold b_k20_law_right
  refine sqa_ fun D hD => ?_
  try dsimp only [dVar_, gv_sh, gv_ow, gv_bx, gv_raw, gv_st, dC, dRaw, dOp, dUn, dTest, dTruth, dAnd, dOr, dNot, dYes, dIf, dAndV, dOrV, dNotV, dNotT, dChain, dNil, dCons, dTup, dLst, dats, dCB, dNoP, dPart, dSl, dNext, dBreak, dCont, dNever, dDrop, dRet, dRetN, dIfS, dSetG, dPar, dPar3, dAppend, dAppPop, dSetIx, dExt, dAug, dSet0, dSAdd, dSNotIn, dIter_, gi_l, gi_t, gi_b, dRng1, dRng2, dName, dGNil, dGCons, dGTup, dAsg, dFor, dWhile, dCall, dCallR, dArgs_, ga_f, ga_t, argsOf, dLc, wipeE, dListRg, dIndex, dSortSet, dSortSc, dEnum, dZip, dIsi, dIsi2, isaT, φI, φB, φC, φNeg, add_i, add_l, add_t, mul_i, mul_l, φIx, sl_l, sl_t, eq_i, eq_s, eq_l, eq_t, eq_b, eq_n, φIsN, isN_n, isN_b, isN_i, isN_s, isN_l, isN_t, φLen, φList, φTuple, φAbs, φInt, φMax, φIsB, its_l, its_t, rd_sh, rd_nw, rd_br, rp_sh, rp_nw, rp_br, rp_bx, rp_raw, rp_sr, rr_sh, rr_nw, rr_br, ra_sh, ra_br, ra_bx, ra_raw, va_sh, va_nt, va_nf, va_raw, hb_n, hb_sh, hb_bx, hb_raw, hb_br, sh_n, sh_c, tr_n, tr_b, tr_i, tr_l, tr_t, ty_n, ty_b, ty_i, ty_s, ty_l, ty_t, if_ff, if_tt, Env.set, List.getElem?_cons_succ, List.getElem?_cons_zero, List.set_cons_succ, List.set_cons_zero, List.reverse_cons, List.reverse_nil, List.nil_append, List.cons_append, Option.bind_some, ite_true, ite_false]
  refine ⟨40, rfl, by decide, by decide, by omega, fun ns c1 hs hl hc1 => ?_⟩
  try dsimp only [dVar_, gv_sh, gv_ow, gv_bx, gv_raw, gv_st, dC, dRaw, dOp, dUn, dTest, dTruth, dAnd, dOr, dNot, dYes, dIf, dAndV, dOrV, dNotV, dNotT, dChain, dNil, dCons, dTup, dLst, dats, dCB, dNoP, dPart, dSl, dNext, dBreak, dCont, dNever, dDrop, dRet, dRetN, dIfS, dSetG, dPar, dPar3, dAppend, dAppPop, dSetIx, dExt, dAug, dSet0, dSAdd, dSNotIn, dIter_, gi_l, gi_t, gi_b, dRng1, dRng2, dName, dGNil, dGCons, dGTup, dAsg, dFor, dWhile, dCall, dCallR, dArgs_, ga_f, ga_t, argsOf, dLc, wipeE, dListRg, dIndex, dSortSet, dSortSc, dEnum, dZip, dIsi, dIsi2, isaT, φI, φB, φC, φNeg, add_i, add_l, add_t, mul_i, mul_l, φIx, sl_l, sl_t, eq_i, eq_s, eq_l, eq_t, eq_b, eq_n, φIsN, isN_n, isN_b, isN_i, isN_s, isN_l, isN_t, φLen, φList, φTuple, φAbs, φInt, φMax, φIsB, its_l, its_t, rd_sh, rd_nw, rd_br, rp_sh, rp_nw, rp_br, rp_bx, rp_raw, rp_sr, rr_sh, rr_nw, rr_br, ra_sh, ra_br, ra_bx, ra_raw, va_sh, va_nt, va_nf, va_raw, hb_n, hb_sh, hb_bx, hb_raw, hb_br, sh_n, sh_c, tr_n, tr_b, tr_i, tr_l, tr_t, ty_n, ty_b, ty_i, ty_s, ty_l, ty_t, if_ff, if_tt, Env.set, List.getElem?_cons_succ, List.getElem?_cons_zero, List.set_cons_succ, List.set_cons_zero, List.reverse_cons, List.reverse_nil, List.nil_append, List.cons_append, Option.bind_some, ite_true, ite_false]
  refine hD _ ?_
  have hl40 : ns.length ≤ 60 := by omega
  refine sqa_ fun D hD => ?_
  try dsimp only [dVar_, gv_sh, gv_ow, gv_bx, gv_raw, gv_st, dC, dRaw, dOp, dUn, dTest, dTruth, dAnd, dOr, dNot, dYes, dIf, dAndV, dOrV, dNotV, dNotT, dChain, dNil, dCons, dTup, dLst, dats, dCB, dNoP, dPart, dSl, dNext, dBreak, dCont, dNever, dDrop, dRet, dRetN, dIfS, dSetG, dPar, dPar3, dAppend, dAppPop, dSetIx, dExt, dAug, dSet0, dSAdd, dSNotIn, dIter_, gi_l, gi_t, gi_b, dRng1, dRng2, dName, dGNil, dGCons, dGTup, dAsg, dFor, dWhile, dCall, dCallR, dArgs_, ga_f, ga_t, argsOf, dLc, wipeE, dListRg, dIndex, dSortSet, dSortSc, dEnum, dZip, dIsi, dIsi2, isaT, φI, φB, φC, φNeg, add_i, add_l, add_t, mul_i, mul_l, φIx, sl_l, sl_t, eq_i, eq_s, eq_l, eq_t, eq_b, eq_n, φIsN, isN_n, isN_b, isN_i, isN_s, isN_l, isN_t, φLen, φList, φTuple, φAbs, φInt, φMax, φIsB, its_l, its_t, rd_sh, rd_nw, rd_br, rp_sh, rp_nw, rp_br, rp_bx, rp_raw, rp_sr, rr_sh, rr_nw, rr_br, ra_sh, ra_br, ra_bx, ra_raw, va_sh, va_nt, va_nf, va_raw, hb_n, hb_sh, hb_bx, hb_raw, hb_br, sh_n, sh_c, tr_n, tr_b, tr_i, tr_l, tr_t, ty_n, ty_b, ty_i, ty_s, ty_l, ty_t, if_ff, if_tt, Env.set, List.getElem?_cons_succ, List.getElem?_cons_zero, List.set_cons_succ, List.set_cons_zero, List.reverse_cons, List.reverse_nil, List.nil_append, List.cons_append, Option.bind_some, ite_true, ite_false]
  refine φRepr_sq (b := true) (its_t _) (hs.lo.small (by omega)) (by omega) ?_
  refine ⟨_, ns, rfl, its_t _, hs, ?_⟩
  try dsimp only [dVar_, gv_sh, gv_ow, gv_bx, gv_raw, gv_st, dC, dRaw, dOp, dUn, dTest, dTruth, dAnd, dOr, dNot, dYes, dIf, dAndV, dOrV, dNotV, dNotT, dChain, dNil, dCons, dTup, dLst, dats, dCB, dNoP, dPart, dSl, dNext, dBreak, dCont, dNever, dDrop, dRet, dRetN, dIfS, dSetG, dPar, dPar3, dAppend, dAppPop, dSetIx, dExt, dAug, dSet0, dSAdd, dSNotIn, dIter_, gi_l, gi_t, gi_b, dRng1, dRng2, dName, dGNil, dGCons, dGTup, dAsg, dFor, dWhile, dCall, dCallR, dArgs_, ga_f, ga_t, argsOf, dLc, wipeE, dListRg, dIndex, dSortSet, dSortSc, dEnum, dZip, dIsi, dIsi2, isaT, φI, φB, φC, φNeg, add_i, add_l, add_t, mul_i, mul_l, φIx, sl_l, sl_t, eq_i, eq_s, eq_l, eq_t, eq_b, eq_n, φIsN, isN_n, isN_b, isN_i, isN_s, isN_l, isN_t, φLen, φList, φTuple, φAbs, φInt, φMax, φIsB, its_l, its_t, rd_sh, rd_nw, rd_br, rp_sh, rp_nw, rp_br, rp_bx, rp_raw, rp_sr, rr_sh, rr_nw, rr_br, ra_sh, ra_br, ra_bx, ra_raw, va_sh, va_nt, va_nf, va_raw, hb_n, hb_sh, hb_bx, hb_raw, hb_br, sh_n, sh_c, tr_n, tr_b, tr_i, tr_l, tr_t, ty_n, ty_b, ty_i, ty_s, ty_l, ty_t, if_ff, if_tt, Env.set, List.getElem?_cons_succ, List.getElem?_cons_zero, List.set_cons_succ, List.set_cons_zero, List.reverse_cons, List.reverse_nil, List.nil_append, List.cons_append, Option.bind_some, ite_true, ite_false]
  refine ⟨_, ns, rfl, its_t _, hs, hl40, fun RS hR => ?_⟩
  try dsimp only [dVar_, gv_sh, gv_ow, gv_bx, gv_raw, gv_st, dC, dRaw, dOp, dUn, dTest, dTruth, dAnd, dOr, dNot, dYes, dIf, dAndV, dOrV, dNotV, dNotT, dChain, dNil, dCons, dTup, dLst, dats, dCB, dNoP, dPart, dSl, dNext, dBreak, dCont, dNever, dDrop, dRet, dRetN, dIfS, dSetG, dPar, dPar3, dAppend, dAppPop, dSetIx, dExt, dAug, dSet0, dSAdd, dSNotIn, dIter_, gi_l, gi_t, gi_b, dRng1, dRng2, dName, dGNil, dGCons, dGTup, dAsg, dFor, dWhile, dCall, dCallR, dArgs_, ga_f, ga_t, argsOf, dLc, wipeE, dListRg, dIndex, dSortSet, dSortSc, dEnum, dZip, dIsi, dIsi2, isaT, φI, φB, φC, φNeg, add_i, add_l, add_t, mul_i, mul_l, φIx, sl_l, sl_t, eq_i, eq_s, eq_l, eq_t, eq_b, eq_n, φIsN, isN_n, isN_b, isN_i, isN_s, isN_l, isN_t, φLen, φList, φTuple, φAbs, φInt, φMax, φIsB, its_l, its_t, rd_sh, rd_nw, rd_br, rp_sh, rp_nw, rp_br, rp_bx, rp_raw, rp_sr, rr_sh, rr_nw, rr_br, ra_sh, ra_br, ra_bx, ra_raw, va_sh, va_nt, va_nf, va_raw, hb_n, hb_sh, hb_bx, hb_raw, hb_br, sh_n, sh_c, tr_n, tr_b, tr_i, tr_l, tr_t, ty_n, ty_b, ty_i, ty_s, ty_l, ty_t, if_ff, if_tt, Env.set, List.getElem?_cons_succ, List.getElem?_cons_zero, List.set_cons_succ, List.set_cons_zero, List.reverse_cons, List.reverse_nil, List.nil_append, List.cons_append, Option.bind_some, ite_true, ite_false]
  refine hD _ ?_
  have hdep : dep 3 (.list [.tuple (dI (codeF ns)), .int (prodL (outF ns) * prodL (insF RS))]) = true := by
    have : dep 2 (.tuple (dI (codeF ns))) = true := by
      show (decide _ && _) = true
      rw [dep_dI, dI_len, code_len, decide_eq_true (by omega)]; rfl
    show (decide _ && List.all _ _) = true
    rw [List.all_cons, this]; rfl
  refine sqa_ fun D hD => ?_
  try dsimp only [dVar_, gv_sh, gv_ow, gv_bx, gv_raw, gv_st, dC, dRaw, dOp, dUn, dTest, dTruth, dAnd, dOr, dNot, dYes, dIf, dAndV, dOrV, dNotV, dNotT, dChain, dNil, dCons, dTup, dLst, dats, dCB, dNoP, dPart, dSl, dNext, dBreak, dCont, dNever, dDrop, dRet, dRetN, dIfS, dSetG, dPar, dPar3, dAppend, dAppPop, dSetIx, dExt, dAug, dSet0, dSAdd, dSNotIn, dIter_, gi_l, gi_t, gi_b, dRng1, dRng2, dName, dGNil, dGCons, dGTup, dAsg, dFor, dWhile, dCall, dCallR, dArgs_, ga_f, ga_t, argsOf, dLc, wipeE, dListRg, dIndex, dSortSet, dSortSc, dEnum, dZip, dIsi, dIsi2, isaT, φI, φB, φC, φNeg, add_i, add_l, add_t, mul_i, mul_l, φIx, sl_l, sl_t, eq_i, eq_s, eq_l, eq_t, eq_b, eq_n, φIsN, isN_n, isN_b, isN_i, isN_s, isN_l, isN_t, φLen, φList, φTuple, φAbs, φInt, φMax, φIsB, its_l, its_t, rd_sh, rd_nw, rd_br, rp_sh, rp_nw, rp_br, rp_bx, rp_raw, rp_sr, rr_sh, rr_nw, rr_br, ra_sh, ra_br, ra_bx, ra_raw, va_sh, va_nt, va_nf, va_raw, hb_n, hb_sh, hb_bx, hb_raw, hb_br, sh_n, sh_c, tr_n, tr_b, tr_i, tr_l, tr_t, ty_n, ty_b, ty_i, ty_s, ty_l, ty_t, if_ff, if_tt, Env.set, List.getElem?_cons_succ, List.getElem?_cons_zero, List.set_cons_succ, List.set_cons_zero, List.reverse_cons, List.reverse_nil, List.nil_append, List.cons_append, Option.bind_some, ite_true, ite_false]
  refine ⟨_, ns, rfl, its_t _, hs, ?_⟩
  try dsimp only [dVar_, gv_sh, gv_ow, gv_bx, gv_raw, gv_st, dC, dRaw, dOp, dUn, dTest, dTruth, dAnd, dOr, dNot, dYes, dIf, dAndV, dOrV, dNotV, dNotT, dChain, dNil, dCons, dTup, dLst, dats, dCB, dNoP, dPart, dSl, dNext, dBreak, dCont, dNever, dDrop, dRet, dRetN, dIfS, dSetG, dPar, dPar3, dAppend, dAppPop, dSetIx, dExt, dAug, dSet0, dSAdd, dSNotIn, dIter_, gi_l, gi_t, gi_b, dRng1, dRng2, dName, dGNil, dGCons, dGTup, dAsg, dFor, dWhile, dCall, dCallR, dArgs_, ga_f, ga_t, argsOf, dLc, wipeE, dListRg, dIndex, dSortSet, dSortSc, dEnum, dZip, dIsi, dIsi2, isaT, φI, φB, φC, φNeg, add_i, add_l, add_t, mul_i, mul_l, φIx, sl_l, sl_t, eq_i, eq_s, eq_l, eq_t, eq_b, eq_n, φIsN, isN_n, isN_b, isN_i, isN_s, isN_l, isN_t, φLen, φList, φTuple, φAbs, φInt, φMax, φIsB, its_l, its_t, rd_sh, rd_nw, rd_br, rp_sh, rp_nw, rp_br, rp_bx, rp_raw, rp_sr, rr_sh, rr_nw, rr_br, ra_sh, ra_br, ra_bx, ra_raw, va_sh, va_nt, va_nf, va_raw, hb_n, hb_sh, hb_bx, hb_raw, hb_br, sh_n, sh_c, tr_n, tr_b, tr_i, tr_l, tr_t, ty_n, ty_b, ty_i, ty_s, ty_l, ty_t, if_ff, if_tt, Env.set, List.getElem?_cons_succ, List.getElem?_cons_zero, List.set_cons_succ, List.set_cons_zero, List.reverse_cons, List.reverse_nil, List.nil_append, List.cons_append, Option.bind_some, ite_true, ite_false]
  refine ⟨_, ns, rfl, its_t _, hs, hl40, fun RS' hR' => ?_⟩
  rw [hR'.eq hR]
  try dsimp only [dVar_, gv_sh, gv_ow, gv_bx, gv_raw, gv_st, dC, dRaw, dOp, dUn, dTest, dTruth, dAnd, dOr, dNot, dYes, dIf, dAndV, dOrV, dNotV, dNotT, dChain, dNil, dCons, dTup, dLst, dats, dCB, dNoP, dPart, dSl, dNext, dBreak, dCont, dNever, dDrop, dRet, dRetN, dIfS, dSetG, dPar, dPar3, dAppend, dAppPop, dSetIx, dExt, dAug, dSet0, dSAdd, dSNotIn, dIter_, gi_l, gi_t, gi_b, dRng1, dRng2, dName, dGNil, dGCons, dGTup, dAsg, dFor, dWhile, dCall, dCallR, dArgs_, ga_f, ga_t, argsOf, dLc, wipeE, dListRg, dIndex, dSortSet, dSortSc, dEnum, dZip, dIsi, dIsi2, isaT, φI, φB, φC, φNeg, add_i, add_l, add_t, mul_i, mul_l, φIx, sl_l, sl_t, eq_i, eq_s, eq_l, eq_t, eq_b, eq_n, φIsN, isN_n, isN_b, isN_i, isN_s, isN_l, isN_t, φLen, φList, φTuple, φAbs, φInt, φMax, φIsB, its_l, its_t, rd_sh, rd_nw, rd_br, rp_sh, rp_nw, rp_br, rp_bx, rp_raw, rp_sr, rr_sh, rr_nw, rr_br, ra_sh, ra_br, ra_bx, ra_raw, va_sh, va_nt, va_nf, va_raw, hb_n, hb_sh, hb_bx, hb_raw, hb_br, sh_n, sh_c, tr_n, tr_b, tr_i, tr_l, tr_t, ty_n, ty_b, ty_i, ty_s, ty_l, ty_t, if_ff, if_tt, Env.set, List.getElem?_cons_succ, List.getElem?_cons_zero, List.set_cons_succ, List.set_cons_zero, List.reverse_cons, List.reverse_nil, List.nil_append, List.cons_append, Option.bind_some, ite_true, ite_false]
  refine ⟨_, _, rfl, rfl, hdep, ?_⟩
  try dsimp only [dVar_, gv_sh, gv_ow, gv_bx, gv_raw, gv_st, dC, dRaw, dOp, dUn, dTest, dTruth, dAnd, dOr, dNot, dYes, dIf, dAndV, dOrV, dNotV, dNotT, dChain, dNil, dCons, dTup, dLst, dats, dCB, dNoP, dPart, dSl, dNext, dBreak, dCont, dNever, dDrop, dRet, dRetN, dIfS, dSetG, dPar, dPar3, dAppend, dAppPop, dSetIx, dExt, dAug, dSet0, dSAdd, dSNotIn, dIter_, gi_l, gi_t, gi_b, dRng1, dRng2, dName, dGNil, dGCons, dGTup, dAsg, dFor, dWhile, dCall, dCallR, dArgs_, ga_f, ga_t, argsOf, dLc, wipeE, dListRg, dIndex, dSortSet, dSortSc, dEnum, dZip, dIsi, dIsi2, isaT, φI, φB, φC, φNeg, add_i, add_l, add_t, mul_i, mul_l, φIx, sl_l, sl_t, eq_i, eq_s, eq_l, eq_t, eq_b, eq_n, φIsN, isN_n, isN_b, isN_i, isN_s, isN_l, isN_t, φLen, φList, φTuple, φAbs, φInt, φMax, φIsB, its_l, its_t, rd_sh, rd_nw, rd_br, rp_sh, rp_nw, rp_br, rp_bx, rp_raw, rp_sr, rr_sh, rr_nw, rr_br, ra_sh, ra_br, ra_bx, ra_raw, va_sh, va_nt, va_nf, va_raw, hb_n, hb_sh, hb_bx, hb_raw, hb_br, sh_n, sh_c, tr_n, tr_b, tr_i, tr_l, tr_t, ty_n, ty_b, ty_i, ty_s, ty_l, ty_t, if_ff, if_tt, Env.set, List.getElem?_cons_succ, List.getElem?_cons_zero, List.set_cons_succ, List.set_cons_zero, List.reverse_cons, List.reverse_nil, List.nil_append, List.cons_append, Option.bind_some, ite_true, ite_false]
  refine hD _ ?_
  try dsimp only [dVar_, gv_sh, gv_ow, gv_bx, gv_raw, gv_st, dC, dRaw, dOp, dUn, dTest, dTruth, dAnd, dOr, dNot, dYes, dIf, dAndV, dOrV, dNotV, dNotT, dChain, dNil, dCons, dTup, dLst, dats, dCB, dNoP, dPart, dSl, dNext, dBreak, dCont, dNever, dDrop, dRet, dRetN, dIfS, dSetG, dPar, dPar3, dAppend, dAppPop, dSetIx, dExt, dAug, dSet0, dSAdd, dSNotIn, dIter_, gi_l, gi_t, gi_b, dRng1, dRng2, dName, dGNil, dGCons, dGTup, dAsg, dFor, dWhile, dCall, dCallR, dArgs_, ga_f, ga_t, argsOf, dLc, wipeE, dListRg, dIndex, dSortSet, dSortSc, dEnum, dZip, dIsi, dIsi2, isaT, φI, φB, φC, φNeg, add_i, add_l, add_t, mul_i, mul_l, φIx, sl_l, sl_t, eq_i, eq_s, eq_l, eq_t, eq_b, eq_n, φIsN, isN_n, isN_b, isN_i, isN_s, isN_l, isN_t, φLen, φList, φTuple, φAbs, φInt, φMax, φIsB, its_l, its_t, rd_sh, rd_nw, rd_br, rp_sh, rp_nw, rp_br, rp_bx, rp_raw, rp_sr, rr_sh, rr_nw, rr_br, ra_sh, ra_br, ra_bx, ra_raw, va_sh, va_nt, va_nf, va_raw, hb_n, hb_sh, hb_bx, hb_raw, hb_br, sh_n, sh_c, tr_n, tr_b, tr_i, tr_l, tr_t, ty_n, ty_b, ty_i, ty_s, ty_l, ty_t, if_ff, if_tt, Env.set, List.getElem?_cons_succ, List.getElem?_cons_zero, List.set_cons_succ, List.set_cons_zero, List.reverse_cons, List.reverse_nil, List.nil_append, List.cons_append, Option.bind_some, ite_true, ite_false]
  refine ⟨_, ns, rfl, its_l _, hs, ?_⟩
  try dsimp only [dVar_, gv_sh, gv_ow, gv_bx, gv_raw, gv_st, dC, dRaw, dOp, dUn, dTest, dTruth, dAnd, dOr, dNot, dYes, dIf, dAndV, dOrV, dNotV, dNotT, dChain, dNil, dCons, dTup, dLst, dats, dCB, dNoP, dPart, dSl, dNext, dBreak, dCont, dNever, dDrop, dRet, dRetN, dIfS, dSetG, dPar, dPar3, dAppend, dAppPop, dSetIx, dExt, dAug, dSet0, dSAdd, dSNotIn, dIter_, gi_l, gi_t, gi_b, dRng1, dRng2, dName, dGNil, dGCons, dGTup, dAsg, dFor, dWhile, dCall, dCallR, dArgs_, ga_f, ga_t, argsOf, dLc, wipeE, dListRg, dIndex, dSortSet, dSortSc, dEnum, dZip, dIsi, dIsi2, isaT, φI, φB, φC, φNeg, add_i, add_l, add_t, mul_i, mul_l, φIx, sl_l, sl_t, eq_i, eq_s, eq_l, eq_t, eq_b, eq_n, φIsN, isN_n, isN_b, isN_i, isN_s, isN_l, isN_t, φLen, φList, φTuple, φAbs, φInt, φMax, φIsB, its_l, its_t, rd_sh, rd_nw, rd_br, rp_sh, rp_nw, rp_br, rp_bx, rp_raw, rp_sr, rr_sh, rr_nw, rr_br, ra_sh, ra_br, ra_bx, ra_raw, va_sh, va_nt, va_nf, va_raw, hb_n, hb_sh, hb_bx, hb_raw, hb_br, sh_n, sh_c, tr_n, tr_b, tr_i, tr_l, tr_t, ty_n, ty_b, ty_i, ty_s, ty_l, ty_t, if_ff, if_tt, Env.set, List.getElem?_cons_succ, List.getElem?_cons_zero, List.set_cons_succ, List.set_cons_zero, List.reverse_cons, List.reverse_nil, List.nil_append, List.cons_append, Option.bind_some, ite_true, ite_false]
  refine ⟨_, ns, rfl, its_l _, hs, hl40, fun RS' hR' => ?_⟩
  rw [hR'.eq hR]
  try dsimp only [dVar_, gv_sh, gv_ow, gv_bx, gv_raw, gv_st, dC, dRaw, dOp, dUn, dTest, dTruth, dAnd, dOr, dNot, dYes, dIf, dAndV, dOrV, dNotV, dNotT, dChain, dNil, dCons, dTup, dLst, dats, dCB, dNoP, dPart, dSl, dNext, dBreak, dCont, dNever, dDrop, dRet, dRetN, dIfS, dSetG, dPar, dPar3, dAppend, dAppPop, dSetIx, dExt, dAug, dSet0, dSAdd, dSNotIn, dIter_, gi_l, gi_t, gi_b, dRng1, dRng2, dName, dGNil, dGCons, dGTup, dAsg, dFor, dWhile, dCall, dCallR, dArgs_, ga_f, ga_t, argsOf, dLc, wipeE, dListRg, dIndex, dSortSet, dSortSc, dEnum, dZip, dIsi, dIsi2, isaT, φI, φB, φC, φNeg, add_i, add_l, add_t, mul_i, mul_l, φIx, sl_l, sl_t, eq_i, eq_s, eq_l, eq_t, eq_b, eq_n, φIsN, isN_n, isN_b, isN_i, isN_s, isN_l, isN_t, φLen, φList, φTuple, φAbs, φInt, φMax, φIsB, its_l, its_t, rd_sh, rd_nw, rd_br, rp_sh, rp_nw, rp_br, rp_bx, rp_raw, rp_sr, rr_sh, rr_nw, rr_br, ra_sh, ra_br, ra_bx, ra_raw, va_sh, va_nt, va_nf, va_raw, hb_n, hb_sh, hb_bx, hb_raw, hb_br, sh_n, sh_c, tr_n, tr_b, tr_i, tr_l, tr_t, ty_n, ty_b, ty_i, ty_s, ty_l, ty_t, if_ff, if_tt, Env.set, List.getElem?_cons_succ, List.getElem?_cons_zero, List.set_cons_succ, List.set_cons_zero, List.reverse_cons, List.reverse_nil, List.nil_append, List.cons_append, Option.bind_some, ite_true, ite_false]
  refine ⟨_, _, rfl, rfl, hdep, ?_⟩
  try dsimp only [dVar_, gv_sh, gv_ow, gv_bx, gv_raw, gv_st, dC, dRaw, dOp, dUn, dTest, dTruth, dAnd, dOr, dNot, dYes, dIf, dAndV, dOrV, dNotV, dNotT, dChain, dNil, dCons, dTup, dLst, dats, dCB, dNoP, dPart, dSl, dNext, dBreak, dCont, dNever, dDrop, dRet, dRetN, dIfS, dSetG, dPar, dPar3, dAppend, dAppPop, dSetIx, dExt, dAug, dSet0, dSAdd, dSNotIn, dIter_, gi_l, gi_t, gi_b, dRng1, dRng2, dName, dGNil, dGCons, dGTup, dAsg, dFor, dWhile, dCall, dCallR, dArgs_, ga_f, ga_t, argsOf, dLc, wipeE, dListRg, dIndex, dSortSet, dSortSc, dEnum, dZip, dIsi, dIsi2, isaT, φI, φB, φC, φNeg, add_i, add_l, add_t, mul_i, mul_l, φIx, sl_l, sl_t, eq_i, eq_s, eq_l, eq_t, eq_b, eq_n, φIsN, isN_n, isN_b, isN_i, isN_s, isN_l, isN_t, φLen, φList, φTuple, φAbs, φInt, φMax, φIsB, its_l, its_t, rd_sh, rd_nw, rd_br, rp_sh, rp_nw, rp_br, rp_bx, rp_raw, rp_sr, rr_sh, rr_nw, rr_br, ra_sh, ra_br, ra_bx, ra_raw, va_sh, va_nt, va_nf, va_raw, hb_n, hb_sh, hb_bx, hb_raw, hb_br, sh_n, sh_c, tr_n, tr_b, tr_i, tr_l, tr_t, ty_n, ty_b, ty_i, ty_s, ty_l, ty_t, if_ff, if_tt, Env.set, List.getElem?_cons_succ, List.getElem?_cons_zero, List.set_cons_succ, List.set_cons_zero, List.reverse_cons, List.reverse_nil, List.nil_append, List.cons_append, Option.bind_some, ite_true, ite_false]
  refine φRepr_sq (b := true) (its_t _) (hs.lo.small (by omega)) (by omega) ?_
  try dsimp only [dVar_, gv_sh, gv_ow, gv_bx, gv_raw, gv_st, dC, dRaw, dOp, dUn, dTest, dTruth, dAnd, dOr, dNot, dYes, dIf, dAndV, dOrV, dNotV, dNotT, dChain, dNil, dCons, dTup, dLst, dats, dCB, dNoP, dPart, dSl, dNext, dBreak, dCont, dNever, dDrop, dRet, dRetN, dIfS, dSetG, dPar, dPar3, dAppend, dAppPop, dSetIx, dExt, dAug, dSet0, dSAdd, dSNotIn, dIter_, gi_l, gi_t, gi_b, dRng1, dRng2, dName, dGNil, dGCons, dGTup, dAsg, dFor, dWhile, dCall, dCallR, dArgs_, ga_f, ga_t, argsOf, dLc, wipeE, dListRg, dIndex, dSortSet, dSortSc, dEnum, dZip, dIsi, dIsi2, isaT, φI, φB, φC, φNeg, add_i, add_l, add_t, mul_i, mul_l, φIx, sl_l, sl_t, eq_i, eq_s, eq_l, eq_t, eq_b, eq_n, φIsN, isN_n, isN_b, isN_i, isN_s, isN_l, isN_t, φLen, φList, φTuple, φAbs, φInt, φMax, φIsB, its_l, its_t, rd_sh, rd_nw, rd_br, rp_sh, rp_nw, rp_br, rp_bx, rp_raw, rp_sr, rr_sh, rr_nw, rr_br, ra_sh, ra_br, ra_bx, ra_raw, va_sh, va_nt, va_nf, va_raw, hb_n, hb_sh, hb_bx, hb_raw, hb_br, sh_n, sh_c, tr_n, tr_b, tr_i, tr_l, tr_t, ty_n, ty_b, ty_i, ty_s, ty_l, ty_t, if_ff, if_tt, Env.set, List.getElem?_cons_succ, List.getElem?_cons_zero, List.set_cons_succ, List.set_cons_zero, List.reverse_cons, List.reverse_nil, List.nil_append, List.cons_append, Option.bind_some, ite_true, ite_false]
  rw [decide_eq_true rfl]
  exact q c1 (by omega)
end Lp

namespace Lp
open PySem PySem.Spec PyProof.Rows L2
/-- all but b stand as they stood -/
def Sb (b : Addr) (H H' : Hp) : Prop := ∀ a o, a ≠ b → H a = some o → H' a = some o
theorem Sb.refl (b : Addr) (H : Hp) : Sb b H H := fun _ _ _ h => h
theorem Sb.trans {b : Addr} {H H1 H2 : Hp} (x : Sb b H H1) (y : Sb b H1 H2) : Sb b H H2 := fun a o n h => y a o n (x a o n h)
theorem Sb.upd {b : Addr} {H H1 : Hp} {o : HO} (x : Sb b H H1) : Sb b H (upd H1 b o) := fun a u n h => by
  rw [upd_ne n]; exact x a u n h
theorem same_new {H : Hp} {p : Addr} {o : HO} (h : H p = none) : Same H (upd H p o) := fun a u e => by
  rw [upd_ne (ne_of_none e h)]; exact e
def spTake : Sp := fun vs H Q _ => ∃ (b : Addr) (span : Int) (c : Nat), vs = [.ref b, .int span] ∧ Box H b c ∧ c ≤ 1000000000 ∧ 1 ≤ span ∧ span ≤ 10000000 ∧
  ∀ H' (r : Int), Sb b H H' → Box H' b (c + 1) → 0 ≤ r → r < span → Q (.int r) H'
def spTakeW : Sp := fun vs H Q _ => ∃ (b : Addr) (span : Int) (c : Nat), vs = [.ref b, .int span] ∧ Box H b c ∧ c ≤ 900000000 ∧ 1 ≤ span ∧ span ≤ 10000000000000 ∧
  ∀ H' (r : Int), Sb b H H' → Box H' b (c + 2) → 0 ≤ r → r < span → Q (.int r) H'
def spTakeB : Sp := fun vs H Q _ => ∃ (b : Addr) (span : Int) (c : Nat), vs = [.ref b, .int span] ∧ Box H b c ∧ c ≤ 900000000 ∧ 10000000 < span ∧ span ≤ 10000000000000 ∧
  ∀ H' (r : Int), Sb b H H' → Box H' b (c + 2) → 0 ≤ r → r < span → Q (.int r) H'
theorem take_imp {vs : List V} {H : Hp} {Q : VK} {E : XK} (h : spD 2 p_law_take vs H Q E) : spTakeW vs H Q E := by
  obtain ⟨b, L, c, args, hl, cz, ar, span, rfl, h1, h2, h3, q⟩ := h
  cases ar with
  | cons a0 r0 =>
    cases r0 with
    | cons a1 r1 =>
      cases r1
      obtain ⟨a, rfl, rfl⟩ := a0
      cases a1
      obtain ⟨sl, hb⟩ := cz
      obtain ⟨nl, bx⟩ := hb a rfl
      refine ⟨a, span, c, rfl, bx, h3, h1, h2, fun H' r sb bx' r0 r1 => ?_⟩
      have keep : Same L H' := fun x o e => sb x o (fun z => by rw [z, nl] at e; cases e) (sl x o e)
      refine q r (c + 2) r0 r1 (by omega) (.int r) L H' ⟨keep, fun x e => by cases e; exact ⟨nl, bx'⟩⟩ ⟨Same.refl L, fun x o e n => sb x o (fun z => n (by rw [z])) e, fun x hx => ?_, fun x n _ => n⟩ (.int r)
      by_cases z : x = a
      · rw [z]; exact bx'.there
      · cases e : H x with
        | none => exact absurd e hx
        | some o => rw [sb x o z e]; exact fun z => nomatch z
def spBox (K : PySem.W.Frag) : Sp := fun vs H Q _ => ∃ (a : Addr) (k : Int) (ns : List Int), vs = [.ref a, .int k] ∧ SqL K H a (IL ns) ∧ 0 ≤ k ∧ k ≤ 62 ∧
  ∀ H' p, Same H H' → H p = none → Box H' p 0 → Q (.ref p) H'
def spLaw (K : PySem.W.Frag) : Sp := fun vs H Q _ => ∃ (a : Addr) (ns : List Int), vs = [.ref a] ∧ SqL K H a (IL ns) ∧ ns.length ≤ 63 ∧ ∀ H', Q (.bl true) H'
/-- a call of what draws from a box alone and answers True -/
theorem right_do {F : DSp} {H : Hp} {b : Addr} {c : Nat} {Q : VK} {E : XK} (bx : Box H b c) (h : ∀ Q : R → Nat → Prop, (∀ c', Q (.sh (.bool true)) c') → F [.bx] c Q) (q : ∀ H', Sb b H H' → (∃ c', Box H' b c') → Q (.bl true) H') : spD 1 F [.ref b] H Q E := by
  refine ⟨some b, fun _ => none, c, [.bx], rfl, ⟨(fun _ _ h => nomatch h), fun a e => by cases e; exact ⟨rfl, bx⟩⟩, .cons ⟨b, rfl, rfl⟩ .nil, h _ fun c' v L' H' cz ex vr => ?_⟩
  cases vr
  exact q H' (fun a o n e => ex.hh a o e fun z => n (by cases z; rfl)) ⟨c', (cz.2 b rfl).2⟩
theorem fn_none {P : Program} {w : World} {K : PySem.W.Frag} {mg : Str → Option Value} {base : Heap} {k : Nat} {f : Addr} {fd : FuncData} {ps : List Str} {sp : Sp} (h : ∀ vs H Q E, ¬ sp vs H Q E) : FnOk P w K mg base CX0 k f fd ps sp :=
  ⟨fun vs H Q E z => absurd z (h vs H Q E), fun A outer s H args us vs Q E hr he hb hv z => absurd z (h vs H Q E)⟩
theorem fn_or {P : Program} {w : World} {K : PySem.W.Frag} {mg : Str → Option Value} {base : Heap} {k : Nat} {f : Addr} {fd : FuncData} {ps : List Str} {s1 s2 : Sp} (F1 : FnOk P w K mg base CX0 k f fd ps s1) (F2 : FnOk P w K mg base CX0 k f fd ps s2) : FnOk P w K mg base CX0 k f fd ps (fun vs H Q E => s1 vs H Q E ∨ s2 vs H Q E) :=
  ⟨fun vs H Q E h => h.elim (F1.len vs H Q E) (F2.len vs H Q E), fun A outer s H args us vs Q E hr he hb hv hs => hs.elim (F1.run A outer s H args us vs Q E hr he hb hv) (F2.run A outer s H args us vs Q E hr he hb hv)⟩
theorem spD_none {n : Nat} {F : DSp} (h : ∀ args c Q, ¬ F args c Q) : ∀ vs H Q E, ¬ spD n F vs H Q E := fun vs H Q E ⟨b, L, c, args, _, _, _, z⟩ => h _ _ _ z
theorem yes_ok {te : TE} {σ : L2.St} {H : Hp} {R : V → Hp → Prop} {S : Hp → Prop} (h : te σ H R) : tYes σ H fun b H3 => if b = true then te σ H3 R else S H3 :=
  iteT (B := S H) h
theorem rep_bl (n : Nat) : (List.replicate n true).map V.bl = List.replicate n (.bl true) := by rw [List.map_replicate]
theorem rep_app (n : Nat) (x : V) : List.replicate n x ++ [x] = List.replicate (n + 1) x := by
  rw [List.replicate_succ']
theorem rep_all (n : Nat) : (List.replicate n true).all id = true := by
  rw [List.all_replicate]; split <;> rfl
/-- a list stands where its object stands -/
theorem SqL.keep {K : PySem.W.Frag} {H H' : Hp} {a : Addr} {xs : List V} (h : SqL K H a xs) (k : ∀ o, H a = some o → H' a = some o) : SqL K H' a xs := by
  rcases h with h | h
  · refine .inl ?_
    rcases h with h | ⟨o, h⟩
    · exact .inl (k _ h)
    · exact .inr ⟨o, k _ h⟩
  · exact .inr h
theorem at_lt {ns : List Int} {i : Int} (h0 : 0 ≤ i) (h1 : i < (ns.length : Int)) : ∃ z, atI (IL ns) i = some (.int z) := by
  refine ⟨gt ns i, ?_⟩
  rw [atI_nat h0 (by rw [List.length_map]; exact h1), List.getElem?_map, gt_get h0 h1]; rfl
def Stay (K : PySem.W.Frag) (D a : Addr) (xs : List V) (H : Hp) : Prop := (∃ o, H a = some o ∧ a ≠ D ∧ ∀ H', H' a = some o → SqL K H' a xs) ∨ ∀ H', SqL K H' a xs
theorem Stay.of {K : PySem.W.Frag} {D a : Addr} {xs : List V} {H : Hp} {u : HO} (h : SqL K H a xs) (n : H D = none) : Stay K D a xs (upd H D u) := by
  rcases h with h | h
  · refine .inl ?_
    rcases h with h | ⟨o, h⟩
    · have z : a ≠ D := ne_of_none h n
      exact ⟨_, by rw [upd_ne z]; exact h, z, fun H' e => .inl (.inl e)⟩
    · have z : a ≠ D := ne_of_none h n
      exact ⟨_, by rw [upd_ne z]; exact h, z, fun H' e => .inl (.inr ⟨o, e⟩)⟩
  · exact .inr fun H' => .inr h
theorem Stay.sq {K : PySem.W.Frag} {D a : Addr} {xs : List V} {H : Hp} (h : Stay K D a xs H) : SqL K H a xs := by
  rcases h with ⟨o, e, _, h⟩ | h
  · exact h H e
  · exact h H
theorem Stay.step {K : PySem.W.Frag} {D a b : Addr} {xs : List V} {H H6 H7 : Hp} {u : HO} (h : Stay K D a xs H) (s : Same H H6) (n : H b = none) (sb : Sb b H6 H7) : Stay K D a xs (upd H7 D u) := by
  rcases h with ⟨o, e, z, h⟩ | h
  · exact .inl ⟨o, by rw [upd_ne z]; exact sb a o (ne_of_none e n) (s a o e), z, h⟩
  · exact .inr h
end Lp

namespace Lp
open PySem PySem.Spec PyProof.Rows L2
theorem IL_at {es : List Int} {i : Nat} {x : V} (h : (IL es)[i]? = some x) (hi : i < es.length) : x = .int es[i] := by
  rw [IL_get (List.getElem?_eq_getElem hi)] at h
  exact (Option.some.inj h).symm
theorem IL_set (ns : List Int) (i : Nat) (z : Int) : (IL ns).set i (.int z) = IL (ns.set i z) := by
  show (ns.map V.int).set i (V.int z) = (ns.set i z).map V.int
  rw [List.map_set]
theorem dp_ints {K : PySem.W.Frag} {H : Hp} : ∀ ns : List Int, DpAll K H (IL ns) (dI ns)
  | [] => .nil
  | x :: r => .cons (.int x) (dp_ints r)
theorem same_mut {H H' : Hp} {p : Addr} {o : HO} (s : Same H H') (h : H p = none) : Same H (upd H' p o) := fun a u e => by
  rw [upd_ne (ne_of_none e h)]; exact s a u e
theorem cut_IL (ns : List Int) (lo hi : Option Int) : cutV (IL ns) lo hi = IL ((ns.drop (HT.sIx ns.length 0 lo)).take (HT.sIx ns.length ns.length hi - HT.sIx ns.length 0 lo)) := by
  unfold cutV
  show ((ns.map V.int).drop (HT.sIx (ns.map V.int).length 0 lo)).take (HT.sIx (ns.map V.int).length (ns.map V.int).length hi - HT.sIx (ns.map V.int).length 0 lo) = List.map V.int _
  rw [List.length_map, List.map_take, List.map_drop]
def spCells (K : PySem.W.Frag) : Sp := fun vs H Q _ => ∃ (a : Addr) (m : Int) (ns : List Int), vs = [.ref a, .int m] ∧ SqL K H a (IL ns) ∧ 1 ≤ m ∧ m ≤ 60 ∧
  ∀ H' p (ms : List Int), Same H H' → H p = none → H' p = some (.lst (IL ms)) → 1 ≤ ms.length → (ms.length : Int) ≤ m → Q (.ref p) H'
/-- a call of what draws from a box alone and answers True, with a count -/
theorem right_do2 {F : DSp} {H : Hp} {b : Addr} {c N : Nat} {Q : VK} {E : XK} (bx : Box H b c) (h : ∀ Q : R → Nat → Prop, (∀ c', c' ≤ c + N → Q (.sh (.bool true)) c') → F [.bx] c Q) (q : ∀ H', Sb b H H' → Box H' b (c + N) → Q (.bl true) H') : spD 1 F [.ref b] H Q E := by
  refine ⟨some b, fun _ => none, c, [.bx], rfl, ⟨(fun _ _ h => nomatch h), fun a e => by cases e; exact ⟨rfl, bx⟩⟩, .cons ⟨b, rfl, rfl⟩ .nil, h _ fun c' hc v L' H' cz ex vr => ?_⟩
  cases vr
  exact q H' (fun a o n e => ex.hh a o e fun z => n (by cases z; rfl)) ((cz.2 b rfl).2.le hc)
theorem Box.ne {H : Hp} {b D : Addr} {c : Nat} (x : Box H b c) (n : H D = none) : b ≠ D := fun z => x.there (by rw [z]; exact n)
theorem Box.new {H : Hp} {b D : Addr} {c : Nat} {o : HO} (x : Box H b c) (n : H D = none) : Box (upd H D o) b c := x.keep (upd_ne (x.ne n))
theorem Box.put {H : Hp} {b D : Addr} {c : Nat} {o : HO} (x : Box H b c) (n : b ≠ D) : Box (upd H D o) b c := x.keep (upd_ne n)
theorem upd_keep {H : Hp} {a p : Addr} {o u : HO} (h : H a = some o) (n : H p = none) : (upd H p u) a = some o := by rw [upd_ne (ne_of_none h n)]; exact h
end Lp

namespace Lp
open PySem PySem.Spec PyProof.Rows L2
def topS (i : Nat) : Stmt := PySem.Challenge.pw_lookpast_k20_codes_and_their_number.main.body.getD i (.Pass ⟨0, 0, 0, 0⟩)
section
variable {P : Program} {w : World} {K : PySem.W.Frag} {mg : Str → Option Value} {base : Heap}
abbrev sTake : Stmt := topS 19
theorem scTake : FnScope ["_law_box_here", "_law_span", "_law_found", "_law_once"] ["_law_box_here", "_law_span"] (defScope sTake) := ⟨rfl, rfl, rfl, by decide +kernel, rfl, by decide +kernel, by decide +kernel⟩
theorem ok_take {f : Addr} {fd : FuncData} {k : Nat} (F : Fun K "_law_take" "_law_take" sTake f fd) : FnOk P w K mg base CX0 (k + 1) f fd ["_law_box_here", "_law_span"] spTake := by
  refine F.ok scTake (fun vs H Q E h => ?_) (fun cdv A outer s H vs Q E hr h => ?_)
  · obtain ⟨b, span, c, rfl, _⟩ := h
    rfl
  · obtain ⟨b, span, c, rfl, ⟨x0, x1, x2, hb, h0, h1, h2, h3, h4⟩, hc, hs1, hs2, q⟩ := h
    refine ⟨_, pss_cons (ps_if (pt_cmpR op_gt (pe_ix ix_list (pv 0) pe_int (fun _ _ => rfl)) pe_int (nomark _))
        (pss_cons (ps_set (i := 2) scTake.nd rfl (.inl rfl) (pe_op op_mod (pe_ix ix_list (pv 0) pe_int (fun _ _ => rfl)) (pv 1)))
        (pss_cons (ps_asg (pe_op op_fdiv (pe_ix ix_list (pv 0) pe_int (fun _ _ => rfl)) (pv 1)) (pg_sub (pv 0) pe_int set_list))
        (pss_one (ps_ret (pv 2))))) pss_nil)
      (pss_cons (ps_if (pt_cmpR op_gt (pv 1) (pe_op op_pow pe_int pe_int) (nomark _)) pss_never pss_nil)
      (pss_cons (ps_asg (pe_op op_add (pe_ix ix_list (pv 0) pe_int (fun _ _ => rfl)) pe_int) (pg_sub (pv 0) pe_int set_list))
      (pss_cons (ps_set (i := 3) scTake.nd rfl (.inl rfl) (pe_op op_mod (pe_op op_pow (pe_op op_add (pe_ix ix_list (pv 0) pe_int (fun _ _ => rfl)) (pe_op op_mul pe_int (pe_ix ix_list (pv 0) pe_int (fun _ _ => rfl)))) pe_int) pe_int))
      (pss_one (ps_ret (pe_op op_mod (pe_op op_fdiv (pe_op op_mod (pe_op op_add (pe_op op_mul (pv 3) (pe_op op_add (pe_op op_mod (pv 3) pe_int) pe_int)) (pe_op op_mul (pe_ix ix_list (pv 0) pe_int (fun _ _ => rfl)) pe_int)) pe_int) pe_int) (pv 1))))))), ?_⟩
    have ix : SqL K H b [.int x0, .int x1, .int x2] := SqL.of hb
    refine ⟨.ref b, rfl, b, _, 0, .int x0, rfl, rfl, ix, rfl, x0, 0, rfl, rfl, _, rfl, ite2 (fun e => ?_) (fun e => ?_)⟩
    · have e0 : 0 < x0 := of_decide_eq_true e
      refine ⟨.ref b, rfl, b, _, 0, .int x0, rfl, rfl, ix, rfl, .int span, rfl, x0, span, rfl, rfl, (by show (0 : Int) < span; omega), ?_⟩
      refine ⟨.ref b, rfl, b, _, 0, .int x0, rfl, rfl, ix, rfl, .int span, rfl, x0, span, rfl, rfl, ⟨by omega, by omega⟩, ?_⟩
      refine ⟨.ref b, rfl, b, _, 0, 0, rfl, rfl, hb, rfl, ?_⟩
      refine ⟨.int (x0 % span), rfl, q _ _ (Sb.upd (Sb.refl b H)) ⟨x0 / span, x1, x2, upd_same, ?_, h1, h2, h3, by omega⟩ (Int.emod_nonneg _ (by omega)) (Int.emod_lt_of_pos _ (by omega))⟩
      exact Int.ediv_nonneg h0 (by omega)
    · refine ⟨.int span, rfl, 10, 7, rfl, rfl, ⟨by decide, by decide, by decide⟩, span, _, rfl, rfl, _, rfl, ?_⟩
      have e1 : ¬ ((10 : Int) ^ (7 : Int).toNat < span) := by
        show ¬ ((10000000 : Int) < span)
        omega
      rw [decide_eq_false e1]
      refine iteF ?_
      refine ⟨.ref b, rfl, b, _, 2, .int x2, rfl, rfl, ix, rfl, x2, 1, rfl, rfl, ?_⟩
      refine ⟨.ref b, rfl, b, _, 2, 2, rfl, rfl, hb, rfl, ?_⟩
      have ix2 : SqL K (upd H b (.lst [.int x0, .int x1, .int (x2 + 1)])) b [.int x0, .int x1, .int (x2 + 1)] := SqL.of upd_same
      refine ⟨.ref b, rfl, b, _, 1, .int x1, rfl, rfl, ix2, rfl, .ref b, rfl, b, _, 2, .int (x2 + 1), rfl, rfl, ix2, rfl, 39373, x2 + 1, rfl, rfl, .inl ⟨by decide, by decide⟩, x1, _, rfl, rfl, _, 5, rfl, rfl, ⟨by decide, by decide, by omega⟩, _, 2147483647, rfl, rfl, (by show (0 : Int) < 2147483647; decide), ?_⟩
      dsimp only
      generalize hg : (x1 + 39373 * (x2 + 1)) ^ (5 : Int).toNat % 2147483647 = once
      have o1 : 0 ≤ once := by rw [← hg]; exact Int.emod_nonneg _ (by decide)
      have o2 : once < 2147483647 := by rw [← hg]; exact Int.emod_lt_of_pos _ (by decide)
      refine ⟨.int once, rfl, .int once, rfl, once, 40009, rfl, rfl, (by show (0 : Int) < 40009; decide), _, 7, rfl, rfl, once, _, rfl, rfl, .inl ⟨by omega, by omega⟩, .ref b, rfl, b, _, 2, .int (x2 + 1), rfl, rfl, ix2, rfl, x2 + 1, 7919, rfl, rfl, .inl ⟨by omega, by omega⟩, _, _, rfl, rfl, _, 2147483629, rfl, rfl, (by show (0 : Int) < 2147483629; decide), _, 64, rfl, rfl, ⟨by decide, by decide⟩, .int span, rfl, _, span, rfl, rfl, (by show (0 : Int) < span; omega), ?_⟩
      exact q _ _ (Sb.upd (Sb.refl b H)) ⟨x0, x1, x2 + 1, upd_same, h0, h1, h2, by omega, by omega⟩ (Int.emod_nonneg _ (by omega)) (Int.emod_lt_of_pos _ (by omega))
theorem ok_takeB {f : Addr} {fd : FuncData} {k : Nat} (F : Fun K "_law_take" "_law_take" sTake f fd) (T : Cal P w K mg base "_law_take" (k + 1) ["_law_box_here", "_law_span"] spTake f fd) : FnOk P w K mg base CX0 (k + 2) f fd ["_law_box_here", "_law_span"] spTakeB := by
  refine F.ok scTake (fun vs H Q E h => ?_) (fun cdv A outer s H vs Q E hr h => ?_)
  · obtain ⟨b, span, c, rfl, _⟩ := h
    rfl
  · obtain ⟨b, span, c, rfl, hB, hc, hs1, hs2, q⟩ := h
    obtain ⟨x0, x1, x2, hb, h0, h1, h2, h3, h4⟩ := id hB
    refine ⟨_, pss_cons (ps_if (pt_cmpR op_gt (pe_ix ix_list (pv 0) pe_int (fun _ _ => rfl)) pe_int (nomark _))
        (pss_cons (ps_set (i := 2) scTake.nd rfl (.inl rfl) (pe_op op_mod (pe_ix ix_list (pv 0) pe_int (fun _ _ => rfl)) (pv 1)))
        (pss_cons (ps_asg (pe_op op_fdivW (pe_ix ix_list (pv 0) pe_int (fun _ _ => rfl)) (pv 1)) (pg_sub (pv 0) pe_int set_list))
        (pss_one (ps_ret (pv 2))))) pss_nil)
      (pss_cons (ps_if (pt_cmpR op_gt (pv 1) (pe_op op_pow pe_int pe_int) (nomark _))
        (pss_one (ps_ret (pe_op op_mod (pe_op op_add (pe_call T.ok hr (by rfl) T.g T.kp T.bd .nil pass0 (pa_cons (pv 0) (pa_cons (pe_op op_pow pe_int pe_int) pa_nil))) (pe_op op_mul (pe_op op_pow pe_int pe_int) (pe_call T.ok hr (by rfl) T.g T.kp T.bd .nil pass0 (pa_cons (pv 0) (pa_cons (pe_op op_add (pe_op op_fdiv (pe_op op_sub (pv 1) pe_int) (pe_op op_pow pe_int pe_int)) pe_int) pa_nil))))) (pv 1)))) pss_nil)
      pss_never), ?_⟩
    have ix : SqL K H b [.int x0, .int x1, .int x2] := SqL.of hb
    refine ⟨.ref b, rfl, b, _, 0, .int x0, rfl, rfl, ix, rfl, x0, 0, rfl, rfl, _, rfl, ite2 (fun e => ?_) (fun e => ?_)⟩
    · have e0 : 0 < x0 := of_decide_eq_true e
      refine ⟨.ref b, rfl, b, _, 0, .int x0, rfl, rfl, ix, rfl, .int span, rfl, x0, span, rfl, rfl, (by show (0 : Int) < span; omega), ?_⟩
      refine ⟨.ref b, rfl, b, _, 0, .int x0, rfl, rfl, ix, rfl, .int span, rfl, x0, span, rfl, rfl, wide_div (b := 64) (by omega) (by omega) (by decide) (by decide), ?_⟩
      refine ⟨.ref b, rfl, b, _, 0, 0, rfl, rfl, hb, rfl, ?_⟩
      refine ⟨.int (x0 % span), rfl, q _ _ (Sb.upd (Sb.refl b H)) ⟨x0 / span, x1, x2, upd_same, ?_, h1, h2, h3, by omega⟩ (Int.emod_nonneg _ (by omega)) (Int.emod_lt_of_pos _ (by omega))⟩
      exact Int.ediv_nonneg h0 (by omega)
    · have p7 : (10 : Int) ^ (7 : Int).toNat = 10000000 := by decide
      refine ⟨.int span, rfl, 10, 7, rfl, rfl, ⟨by decide, by decide, by decide⟩, span, _, rfl, rfl, _, rfl, ?_⟩
      have e1 : (10 : Int) ^ (7 : Int).toNat < span := by rw [p7]; omega
      rw [decide_eq_true e1]
      refine iteT ?_
      refine ⟨.ref b, rfl, 10, 7, rfl, rfl, ⟨by decide, by decide, by decide⟩, b, _, c, rfl, hB, by omega, by decide, by decide, fun H1 r1 sb1 hB1 r10 r11 => ?_⟩
      refine ⟨10, 7, rfl, rfl, ⟨by decide, by decide, by decide⟩, .ref b, rfl, .int span, rfl, span, 1, rfl, rfl, 10, 7, rfl, rfl, ⟨by decide, by decide, by decide⟩, _, _, rfl, rfl, ⟨by decide, by decide⟩, _, 1, rfl, rfl, b, _, c + 1, rfl, hB1, by omega, ?_, ?_, fun H2 r2 sb2 hB2 r20 r21 => ?_⟩
      · show 1 ≤ (span - 1) / (10 : Int) ^ (7 : Int).toNat + 1
        rw [p7]; omega
      · show (span - 1) / (10 : Int) ^ (7 : Int).toNat + 1 ≤ 10000000
        rw [p7]; omega
      · refine ⟨_, r2, rfl, rfl, .inl ⟨by decide, by decide⟩, r1, _, rfl, rfl, .int span, rfl, _, span, rfl, rfl, (by show (0 : Int) < span; omega), ?_⟩
        exact q H2 _ (sb1.trans sb2) (hB2.le (by omega)) (Int.emod_nonneg _ (by omega)) (Int.emod_lt_of_pos _ (by omega))
theorem ok_takeW {f : Addr} {fd : FuncData} {k : Nat} (F : Fun K "_law_take" "_law_take" sTake f fd) (T : Cal P w K mg base "_law_take" (k + 1) ["_law_box_here", "_law_span"] spTake f fd) : FnOk P w K mg base CX0 (k + 2) f fd ["_law_box_here", "_law_span"] spTakeW :=
  FnOk.imp (fn_or (ok_take F) (ok_takeB F T)) fun vs H Q E h => by
    obtain ⟨b, span, c, rfl, hB, hc, h1, h2, q⟩ := h
    by_cases hs : span ≤ 10000000
    · exact .inl ⟨b, span, c, rfl, hB, by omega, h1, hs, fun H' r sb hB' => q H' r sb (hB'.le (by omega))⟩
    · exact .inr ⟨b, span, c, rfl, hB, hc, by omega, h2, q⟩
abbrev sBox : Stmt := topS 18
theorem scBox : FnScope ["_law_script", "_law_k", "_law_cell"] ["_law_script", "_law_k"] (defScope sBox) := ⟨rfl, rfl, rfl, by decide +kernel, rfl, by decide +kernel, by decide +kernel⟩
theorem ok_box {f : Addr} {fd : FuncData} {k : Nat} (F : Fun K "_law_box" "_law_box" sBox f fd) (B : Bi mg) : FnOk P w K mg base CX0 (k + 1) f fd ["_law_script", "_law_k"] (spBox K) := by
  refine F.ok scBox (fun vs H Q E h => ?_) (fun cdv A outer s H vs Q E hr h => ?_)
  · obtain ⟨a, k, ns, rfl, _⟩ := h
    rfl
  · obtain ⟨a, k, ns, rfl, hS, h0, h1, q⟩ := h
    refine ⟨_, pss_cons (ps_set (i := 2) scBox.nd rfl (.inl rfl) (pe_ifExp (pt_cmpR op_lt (pv 1) (pe_callB call_len_seq (by rfl) B.len PySem.boot_len (pa_cons (pv 0) pa_nil)) (nomark _)) (pe_ix ix_list (pv 0) (pv 1) (fun _ _ => rfl)) pe_int))
      (pss_one (ps_ret (pe_lst (pa_cons (pe_op op_mul (pe_callB call_abs (by rfl) B.abs (by decide +kernel) (pa_cons (pv 2) pa_nil)) (pe_callTy call_int1 (by rfl) B.int (by decide +kernel) (pa_cons (pe_cmpR op_ge (pe_callB call_abs (by rfl) B.abs (by decide +kernel) (pa_cons (pv 2) pa_nil)) (pe_op op_pow pe_int pe_int) (nomark _)) pa_nil)))
        (pa_cons (pe_op op_add (pe_op op_add (pe_op op_mod (pv 2) pe_int) (pe_op op_mul pe_int (pv 1))) pe_int) (pa_cons pe_int pa_nil)))))), ?_⟩
    have fin : ∀ z : Int, tRet (tLst (tCons (tOp (rI CMul fun i j => .int (i * j)) (tCB (fun xs H Q => ∃ i, xs = [.int i] ∧ Q (.int (if i < 0 then -i else i)) H) (tCons (tVar 2) tNil)) (tCB (fun xs H Q => (∃ i, xs = [.int i] ∧ Q (.int i) H) ∨ ∃ k, xs = [.bl k] ∧ Q (.int (if k then 1 else 0)) H) (tCons (tOp (rI0 fun i j => .bl (decide (j ≤ i))) (tCB (fun xs H Q => ∃ i, xs = [.int i] ∧ Q (.int (if i < 0 then -i else i)) H) (tCons (tVar 2) tNil)) (tOp (rI CPow fun i j => .int (i ^ j.toNat)) (tC (.int 10)) (tC (.int 18)))) tNil)))
        (tCons (tOp (rI0 fun i j => .int (i + j)) (tOp (rI0 fun i j => .int (i + j)) (tOp (rI (fun _ j => 0 < j) fun i j => .int (i % j)) (tVar 2) (tC (.int 2305843009213693951))) (tOp (rI CMul fun i j => .int (i * j)) (tC (.int 7919)) (tVar 1))) (tC (.int 23))) (tCons (tC (.int 0)) tNil)))) { nx := fun _ H' => Q .non H', rt := Q } [some (.ref a), some (.int k), some (.int z)] H := by
      intro z
      refine ⟨.int z, rfl, z, rfl, .int z, rfl, z, rfl, 10, 18, rfl, rfl, ⟨by decide, by decide, by decide⟩, _, _, rfl, rfl, .inr ⟨_, rfl, _, _, rfl, rfl, .inr ?_, ?_⟩⟩
      · split <;> (split <;> exact ⟨by decide, by decide⟩)
      · refine ⟨.int z, rfl, z, _, rfl, rfl, (by show (0 : Int) < 2305843009213693951; decide), .int k, rfl, 7919, k, rfl, rfl, .inl ⟨by decide, by decide⟩, _, _, rfl, rfl, _, 23, rfl, rfl, (by show 3 ≤ sizeLine; decide), fun p hp => ?_⟩
        refine q _ p (same_new hp) hp ⟨_, _, _, upd_same, ?_, ?_, ?_, by decide, by decide⟩
        · have h1 : (0 : Int) ≤ (if z < 0 then -z else z) := by split <;> omega
          refine Int.mul_nonneg h1 ?_
          split <;> (split <;> decide)
        · have := Int.emod_nonneg z (show (2305843009213693951 : Int) ≠ 0 by decide)
          omega
        · have := Int.emod_lt_of_pos z (show (0 : Int) < 2305843009213693951 by decide)
          omega
    refine ⟨.int k, rfl, .ref a, rfl, a, _, rfl, .inl hS, k, _, rfl, rfl, _, rfl, ite2 (fun e => ?_) (fun e => ?_)⟩
    · have e1 : k < ((IL ns).length : Int) := of_decide_eq_true e
      rw [List.length_map] at e1
      obtain ⟨z, hz⟩ := at_lt h0 e1
      refine ⟨.ref a, rfl, .int k, rfl, a, _, k, .int z, rfl, rfl, hS, hz, ?_⟩
      exact fin z
    · exact fin 0
abbrev sCells : Stmt := topS 20
theorem scCells : FnScope ["_law_script", "_law_most", "_law_cells_here", "_law_k", "_law_cell"] ["_law_script", "_law_most"] (defScope sCells) := ⟨rfl, rfl, rfl, by decide +kernel, rfl, by decide +kernel, by decide +kernel⟩
theorem ok_cells {f : Addr} {fd : FuncData} {k : Nat} (F : Fun K "_law_cells" "_law_cells" sCells f fd) (B : Bi mg) : FnOk P w K mg base CX0 (k + 1) f fd ["_law_script", "_law_most"] (spCells K) := by
  refine F.ok scCells (fun vs H Q E h => ?_) (fun cdv A outer s H vs Q E hr h => ?_)
  · obtain ⟨a, m, ns, rfl, _⟩ := h
    rfl
  · obtain ⟨a, m, ns, rfl, hS, m1, m2, q⟩ := h
    refine ⟨_, pss_cons (ps_set (i := 2) scCells.nd rfl (.inl rfl) (pe_callTy call_list_of (by rfl) B.list (by decide +kernel) (pa_cons (pe_slice sl_list (pv 0) po_none (po_some (pv 1))) pa_nil)))
      (pss_cons (ps_for PassesOwn.never rfl (pi_enum (by rfl) B.enumerate (pa_cons (pe_slice sl_list (pv 0) (po_some (pv 1)) (po_some pe_int)) pa_nil))
          (pg_tup rfl (pgs_cons (pg_name (i := 3) scCells.nd rfl (.inl rfl)) (pgs_cons (pg_name (i := 4) scCells.nd rfl (.inl rfl)) pgs_nil)))
        (pss_one (ps_asg (pe_op op_add (pe_ix ix_list (pv 2) (pe_op op_mod (pv 3) (pv 1)) (fun _ _ => rfl)) (pe_op op_mul (pv 4) (pe_op op_add (pv 3) pe_int))) (pg_sub (pv 2) (pe_op op_mod (pv 3) (pv 1)) set_list))))
      (pss_one (ps_ret (pe_ifExp (pt_cmpR (op_neD hr.units) (pv 2) (pe_lst pa_nil) (nomark _)) (pv 2) (pe_lst (pa_cons pe_int pa_nil)))))), ?_⟩
    refine ⟨.ref a, rfl, .int m, rfl, m, rfl, a, _, rfl, hS, fun c nc => ?_⟩
    rw [cut_IL]
    refine ⟨c, _, rfl, .inl (SqL.of upd_same), fun o no => ?_⟩
    have s1 := same_new (o := HO.lst (IL ((ns.drop (HT.sIx ns.length 0 none)).take (HT.sIx ns.length ns.length (some m) - HT.sIx ns.length 0 none)))) nc
    have s2 := s1.trans (same_new (o := HO.lst (IL ((ns.drop (HT.sIx ns.length 0 none)).take (HT.sIx ns.length ns.length (some m) - HT.sIx ns.length 0 none)))) no)
    have n0 : H o = none := s1.free no
    refine ⟨.ref a, rfl, .int m, rfl, m, rfl, 63, rfl, a, _, rfl, s2.seq hS, fun e ne => ?_⟩
    rw [cut_IL]
    generalize hms : (ns.drop (HT.sIx ns.length 0 none)).take (HT.sIx ns.length ns.length (some m) - HT.sIx ns.length 0 none) = ms0
    generalize hes : (ns.drop (HT.sIx ns.length 0 (some m))).take (HT.sIx ns.length ns.length (some 63) - HT.sIx ns.length 0 (some m)) = es
    have hl0 : ms0.length = min m.toNat ns.length := by
      rw [← hms, List.length_take, List.length_drop, HT.sIx_none, sIx_int _ _ _ (by omega)]
      omega
    have hle : 0 < es.length → m.toNat < ns.length := by
      rw [← hes, List.length_take, List.length_drop, sIx_int _ _ m (by omega), sIx_int _ _ 63 (by omega)]
      omega
    have nee : o ≠ e := fun z => by
      rw [← z, upd_same] at ne
      cases ne
    have s3 := s2.trans (same_new (o := HO.lst (IL es)) ne)
    rw [hms] at s3
    refine ⟨e, _, rfl, SqL.of upd_same, ?_⟩
    refine for_it (walk_enum (K := K) (a := e) (xs := IL es)) (fun _ σ H3 => ∃ y3 y4 ms, σ = [some (.ref a), some (.int m), some (.ref o), y3, y4] ∧ Same H H3 ∧ H3 e = some (.lst (IL es)) ∧ H3 o = some (.lst (IL ms)) ∧ ms.length = min m.toNat ns.length) ?_ ?_ ?_ ?_
    · refine ⟨none, none, ms0, rfl, s3, upd_same, ?_, hl0⟩
      rw [upd_ne nee, upd_same]
    · rintro i σ H3 _ ⟨y3, y4, ms, rfl, _, he, _⟩
      exact SqL.of he
    · rintro i x σ H3 H4 hi ⟨y3, y4, ms, rfl, sm, he, ho, hl⟩ ⟨T, x1, x2, rfl, nT, rfl, hx1, hx2⟩
      cases hx1
      have hi' : i < es.length := by rw [List.length_map] at hi; exact hi
      have hx2' : x2 = .int es[i] := IL_at hx2 hi'
      subst hx2'
      have hml : (ms.length : Int) = m := by have := hle (by omega); omega
      have ho' : (upd H3 T (.tup [.int (i : Nat), .int es[i]])) o = some (.lst (IL ms)) := by rw [upd_ne (ne_of_none ho nT)]; exact ho
      have r0 : 0 ≤ (i : Int) % m := Int.emod_nonneg _ (by omega)
      have r1 : (i : Int) % m < (ms.length : Int) := by rw [hml]; exact Int.emod_lt_of_pos _ (by omega)
      obtain ⟨z, hz⟩ := at_lt r0 r1
      refine ⟨T, _, rfl, SqT.of upd_same, rfl, _, _, rfl, _, _, rfl, rfl, ?_⟩
      refine ⟨.ref o, rfl, .int i, rfl, .int m, rfl, i, m, rfl, rfl, (by show (0 : Int) < m; omega), o, _, _, .int z, rfl, rfl, SqL.of ho', hz, .int es[i], rfl, .int i, rfl, i, 2, rfl, rfl, es[i], _, rfl, rfl, .inr ⟨by omega, ?_⟩, z, _, rfl, rfl, ?_⟩
      · show (i : Int) + 2 < 2 ^ 64
        have : (es.length : Int) ≤ 63 := by
          have : es.length ≤ 63 := by rw [← hes, List.length_take, List.length_drop, sIx_int _ _ m (by omega), sIx_int _ _ 63 (by omega)]; omega
          omega
        omega
      · refine ⟨.ref o, rfl, .int i, rfl, .int m, rfl, i, m, rfl, rfl, (by show (0 : Int) < m; omega), o, _, _, ((i : Int) % m).toNat, rfl, rfl, ho', ?_, ?_⟩
        · rw [List.length_map]; exact ixN_ok r0 r1
        · rw [IL_set]
          refine ⟨_, _, _, rfl, ?_, ?_, upd_same, ?_⟩
          · exact same_mut (sm.trans (same_new nT)) n0
          · rw [upd_ne (Ne.symm nee), upd_ne (ne_of_none he nT)]; exact he
          · rw [List.length_set]; exact hl
    · rintro σ H3 ⟨y3, y4, ms, rfl, sm, he, ho, hl⟩
      refine ⟨.ref o, rfl, Nat.zero_le _, fun z nz => ?_⟩
      have ho2 : (upd H3 z (.lst [])) o = some (.lst (IL ms)) := by rw [upd_ne (ne_of_none ho nz)]; exact ho
      refine ⟨.list (dI ms), .list (dI []), .lst (SqL.of ho2) (dp_ints ms), .lst (SqL.of upd_same) (dp_ints []), shL ms, shL [], _, rfl, ?_⟩
      rw [eqvL]
      cases ms with
      | nil =>
        refine iteF ⟨by show 1 ≤ sizeLine; decide, fun p np => ?_⟩
        refine q _ p [0] ?_ ?_ upd_same (by decide) (by show (1 : Int) ≤ m; omega)
        · exact (sm.trans (same_new nz)).trans (same_new np)
        · exact (sm.trans (same_new nz)).free np
      | cons x r =>
        refine iteT ⟨.ref o, rfl, q _ o (x :: r) (sm.trans (same_new nz)) n0 ho2 ?_ ?_⟩
        · show 1 ≤ r.length + 1; omega
        · omega
/-! ### product -/
abbrev s_product : Stmt := topS 3
abbrev n_product : List Str := ["factors", "result", "factor"]
theorem sc_product : FnScope n_product ["factors"] (defScope s_product) := ⟨rfl, rfl, rfl, by decide +kernel, rfl, by decide +kernel, by decide +kernel⟩
theorem ok_product {f : Addr} {fd : FuncData} (F : Fun K "product" "product" s_product f fd) (B : Bi mg)    : FnOk P w K mg base CX0 1 f fd ["factors"] (spD 1 p_product) := by
  refine okD (k := 0) F sc_product rfl (fun cdv A outer s H E hr => ?_) m_product
  exact ⟨_, (pss_cons (ps_set (i := 1) sc_product.nd rfl (by first | exact Or.inl rfl | exact Or.inr rfl) pe_int)
      (pss_cons (ps_for PassesOwn.never rfl (seqK (K := K) rfl (pv 0)) (pg_name (i := 2) sc_product.nd rfl (by first | exact Or.inl rfl | exact Or.inr rfl)) (pss_one (ps_aug (i := 1) sc_product.nd rfl (by first | exact Or.inl rfl | exact Or.inr rfl) (pv 2) (ipR iop_mulW))))
      (pss_one (ps_ret (pv 1))))),
    (ss_seq (ss_set false se_int)
      (ss_seq (ss_for (si_seq se_var) sg_name (ss_aug r2_C se_var))
      (ss_ret se_var)))⟩
/-! ### check_person -/
abbrev s_check_person : Stmt := topS 5
abbrev n_check_person : List Str := ["state", "person"]
theorem sc_check_person : FnScope n_check_person ["state", "person"] (defScope s_check_person) := ⟨rfl, rfl, rfl, by decide +kernel, rfl, by decide +kernel, by decide +kernel⟩
theorem ok_check_person {f : Addr} {fd : FuncData} (F : Fun K "check_person" "check_person" s_check_person f fd) (B : Bi mg)    : FnOk P w K mg base CX0 1 f fd ["state", "person"] (spD 2 p_check_person) := by
  refine okD (k := 0) F sc_check_person rfl (fun cdv A outer s H E hr => ?_) m_check_person
  exact ⟨_, (pss_one (ps_if (pt_not (pt_chain op_le op_lt pe_int (pv 1) (pe_callB (lenK (K := K) rfl) (by rfl) B.len (by decide +kernel) (pa_cons (pv 0) pa_nil)))) pss_never pss_nil)),
    (ss_if (st_not (st_test (se_chain r2_B r2_B se_int se_var (se_cb rc_len (sa_cons se_var sa_nil))))) ss_never ss_next)⟩
/-! ### route_from -/
abbrev s_route_from : Stmt := topS 6
abbrev n_route_from : List Str := ["pointers", "person", "route", "seen", "at"]
theorem sc_route_from : FnScope n_route_from ["pointers", "person"] (defScope s_route_from) := ⟨rfl, rfl, rfl, by decide +kernel, rfl, by decide +kernel, by decide +kernel⟩
theorem ok_route_from {f : Addr} {fd : FuncData} (F : Fun K "route_from" "route_from" s_route_from f fd) (B : Bi mg)    : FnOk P w K mg base CX0 1 f fd ["pointers", "person"] (spD 2 p_route_from) := by
  refine okD (k := 0) F sc_route_from rfl (fun cdv A outer s H E hr => ?_) m_route_from
  exact ⟨_, (pss_cons (ps_set (i := 2) sc_route_from.nd rfl (by first | exact Or.inl rfl | exact Or.inr rfl) (pe_lst pa_nil))
      (pss_cons (ps_set (i := 3) sc_route_from.nd rfl (by first | exact Or.inl rfl | exact Or.inr rfl) (pe_callTy0 (set0K (w := w) rfl) (by rfl) B.set (by decide +kernel)))
      (pss_cons (ps_set (i := 4) sc_route_from.nd rfl (by first | exact Or.inl rfl | exact Or.inr rfl) (pv 1))
      (pss_cons (ps_while PassesOwn.never (PW.pt (pw_and (pt_cmpR op_notN (pv 4) pe_non (nomark _)) (pw_and1 (pt_cmpR (snotinK (w := w) rfl) (pv 4) (pv 3) (by rfl))))) (pss_cons (ps_expr (saddK (w := w) rfl (pe_sadd (pv 3) (pa_cons (pv 4) pa_nil))))
      (pss_cons (ps_expr (bmK (K := K) rfl (pe_bm PySem.F.plainAttrs_list PySem.F.slot_list_append PySem.F.type_list_append mt_append (pv 2) (pa_cons (pv 4) pa_nil))))
      (pss_one (ps_set (i := 4) sc_route_from.nd rfl (by first | exact Or.inl rfl | exact Or.inr rfl) (pe_ix (ixK (K := K) rfl) (pv 0) (pv 4) (fun _ _ => rfl)))))))
      (pss_one (ps_ret (pv 2))))))),
    (ss_seq (ss_set true (se_lst sa_nil))
      (ss_seq ss_set0
      (ss_seq (ss_set false se_var)
      (ss_seq (ss_while (st_and (st_test (se_op r2_notN se_var se_non)) (st_test (se_snotin se_var se_var))) (ss_seq (ss_sadd se_var)
      (ss_seq (ss_append se_var)
      (ss_set false (se_op r2_ix se_var se_var)))))
      (ss_ret se_var)))))⟩
/-! ### turned -/
abbrev s_turned : Stmt := topS 7
abbrev n_turned : List Str := ["members", "first", "at"]
theorem sc_turned : FnScope n_turned ["members", "first"] (defScope s_turned) := ⟨rfl, rfl, rfl, by decide +kernel, rfl, by decide +kernel, by decide +kernel⟩
theorem ok_turned {f : Addr} {fd : FuncData} (F : Fun K "turned" "turned" s_turned f fd) (B : Bi mg)    : FnOk P w K mg base CX0 1 f fd ["members", "first"] (spD 2 p_turned) := by
  refine okD (k := 0) F sc_turned rfl (fun cdv A outer s H E hr => ?_) m_turned
  exact ⟨_, (pss_cons (ps_set (i := 2) sc_turned.nd rfl (by first | exact Or.inl rfl | exact Or.inr rfl) (indexK (K := K) rfl (pe_index (pv 0) (pa_cons (pv 1) pa_nil))))
      (pss_one (ps_ret (pe_op (addK (K := K) rfl) (pe_slice (slK (K := K) rfl) (pv 0) (po_some (pv 2)) po_none) (pe_slice (slK (K := K) rfl) (pv 0) po_none (po_some (pv 2))))))),
    (ss_seq (ss_set false (se_index se_var se_var))
      (ss_ret (se_op r2_add (se_sl rs_sl se_var (so_some se_var) so_none) (se_sl rs_sl se_var so_none (so_some se_var)))))⟩
/-! ### ring_begin -/
abbrev s_ring_begin : Stmt := topS 8
abbrev n_ring_begin : List Str := ["state", "route"]
theorem sc_ring_begin : FnScope n_ring_begin ["state", "route"] (defScope s_ring_begin) := ⟨rfl, rfl, rfl, by decide +kernel, rfl, by decide +kernel, by decide +kernel⟩
theorem ok_ring_begin {f : Addr} {fd : FuncData} (F : Fun K "ring_begin" "ring_begin" s_ring_begin f fd) (B : Bi mg)    : FnOk P w K mg base CX0 1 f fd ["state", "route"] (spD 2 p_ring_begin) := by
  refine okD (k := 0) F sc_ring_begin rfl (fun cdv A outer s H E hr => ?_) m_ring_begin
  exact ⟨_, (pss_one (ps_ret (indexK (K := K) rfl (pe_index (pv 1) (pa_cons (pe_ix (ixK (K := K) rfl) (pv 0) (pe_ix (ixK (K := K) rfl) (pv 1) (pe_un un_neg pe_int) (fun _ _ => rfl)) (fun _ _ => rfl)) pa_nil))))),
    (ss_ret (se_index se_var (se_op r2_ix se_var (se_op r2_ix se_var (se_un ru_neg se_int)))))⟩
/-! ### way -/
abbrev s_way : Stmt := topS 9
abbrev n_way : List Str := ["state", "person"]
theorem sc_way : FnScope n_way ["state", "person"] (defScope s_way) := ⟨rfl, rfl, rfl, by decide +kernel, rfl, by decide +kernel, by decide +kernel⟩
theorem ok_way {f : Addr} {fd : FuncData} (F : Fun K "way" "way" s_way f fd) (B : Bi mg) {f_check_person : Addr} {e_check_person : FuncData} (c_check_person : Cal P w K mg base "check_person" 1 ["state", "person"] (spD 2 p_check_person) f_check_person e_check_person) {f_route_from : Addr} {e_route_from : FuncData} (c_route_from : Cal P w K mg base "route_from" 1 ["pointers", "person"] (spD 2 p_route_from) f_route_from e_route_from)   : FnOk P w K mg base CX0 2 f fd ["state", "person"] (spD 2 p_way) := by
  refine okD (k := 1) F sc_way rfl (fun cdv A outer s H E hr => ?_) m_way
  exact ⟨_, (pss_cons (ps_expr (pe_call c_check_person.ok (hr.mono (by decide)) (by rfl) c_check_person.g c_check_person.kp c_check_person.bd .nil pass0 (pa_cons (pv 0) (pa_cons (pv 1) pa_nil))))
      (pss_one (ps_ret (pe_call c_route_from.ok (hr.mono (by decide)) (by rfl) c_route_from.g c_route_from.kp c_route_from.bd .nil pass0 (pa_cons (pv 0) (pa_cons (pe_ix (ixK (K := K) rfl) (pv 0) (pv 1) (fun _ _ => rfl)) pa_nil)))))),
    (ss_seq (ss_drop (se_call mon_check_person (sa_cons se_var (sa_cons se_var sa_nil))))
      (ss_ret (se_call mon_route_from (sa_cons se_var (sa_cons (se_op r2_ix se_var se_var) sa_nil)))))⟩
/-! ### ring_of -/
abbrev s_ring_of : Stmt := topS 10
abbrev n_ring_of : List Str := ["state", "person", "route", "members"]
theorem sc_ring_of : FnScope n_ring_of ["state", "person"] (defScope s_ring_of) := ⟨rfl, rfl, rfl, by decide +kernel, rfl, by decide +kernel, by decide +kernel⟩
theorem ok_ring_of {f : Addr} {fd : FuncData} (F : Fun K "ring_of" "ring_of" s_ring_of f fd) (B : Bi mg) {f_check_person : Addr} {e_check_person : FuncData} (c_check_person : Cal P w K mg base "check_person" 1 ["state", "person"] (spD 2 p_check_person) f_check_person e_check_person) {f_route_from : Addr} {e_route_from : FuncData} (c_route_from : Cal P w K mg base "route_from" 1 ["pointers", "person"] (spD 2 p_route_from) f_route_from e_route_from) {f_ring_begin : Addr} {e_ring_begin : FuncData} (c_ring_begin : Cal P w K mg base "ring_begin" 1 ["state", "route"] (spD 2 p_ring_begin) f_ring_begin e_ring_begin) {f_turned : Addr} {e_turned : FuncData} (c_turned : Cal P w K mg base "turned" 1 ["members", "first"] (spD 2 p_turned) f_turned e_turned)   : FnOk P w K mg base CX0 2 f fd ["state", "person"] (spD 2 p_ring_of) := by
  refine okD (k := 1) F sc_ring_of rfl (fun cdv A outer s H E hr => ?_) m_ring_of
  exact ⟨_, (pss_cons (ps_expr (pe_call c_check_person.ok (hr.mono (by decide)) (by rfl) c_check_person.g c_check_person.kp c_check_person.bd .nil pass0 (pa_cons (pv 0) (pa_cons (pv 1) pa_nil))))
      (pss_cons (ps_set (i := 2) sc_ring_of.nd rfl (by first | exact Or.inl rfl | exact Or.inr rfl) (pe_call c_route_from.ok (hr.mono (by decide)) (by rfl) c_route_from.g c_route_from.kp c_route_from.bd .nil pass0 (pa_cons (pv 0) (pa_cons (pv 1) pa_nil))))
      (pss_cons (ps_set (i := 3) sc_ring_of.nd rfl (by first | exact Or.inl rfl | exact Or.inr rfl) (pe_slice (slK (K := K) rfl) (pv 2) (po_some (pe_call c_ring_begin.ok (hr.mono (by decide)) (by rfl) c_ring_begin.g c_ring_begin.kp c_ring_begin.bd .nil pass0 (pa_cons (pv 0) (pa_cons (pv 2) pa_nil)))) po_none))
      (pss_one (ps_ret (pe_callTy (tupleK (K := K) rfl) (by rfl) B.tuple (by decide +kernel) (pa_cons (pe_call c_turned.ok (hr.mono (by decide)) (by rfl) c_turned.g c_turned.kp c_turned.bd .nil pass0 (pa_cons (pv 3) (pa_cons (pe_callB (minK (K := K) rfl rfl) (by rfl) B.min (by decide +kernel) (pa_cons (pv 3) pa_nil)) pa_nil))) pa_nil))))))),
    (ss_seq (ss_drop (se_call mon_check_person (sa_cons se_var (sa_cons se_var sa_nil))))
      (ss_seq (ss_set false (se_call mon_route_from (sa_cons se_var (sa_cons se_var sa_nil))))
      (ss_seq (ss_set false (se_sl rs_sl se_var (so_some (se_call mon_ring_begin (sa_cons se_var (sa_cons se_var sa_nil)))) so_none))
      (ss_ret (se_cb rc_tuple (sa_cons (se_call mon_turned (sa_cons se_var (sa_cons (se_cb rc_min (sa_cons se_var sa_nil)) sa_nil))) sa_nil))))))⟩
/-! ### rings -/
abbrev s_rings : Stmt := topS 11
abbrev n_rings : List Str := ["state", "person"]
theorem sc_rings : FnScope n_rings ["state"] (defScope s_rings) := ⟨rfl, rfl, rfl, by decide +kernel, rfl, by decide +kernel, by decide +kernel⟩
theorem ok_rings {f : Addr} {fd : FuncData} (F : Fun K "rings" "rings" s_rings f fd) (B : Bi mg) {f_ring_of : Addr} {e_ring_of : FuncData} (c_ring_of : Cal P w K mg base "ring_of" 2 ["state", "person"] (spD 2 p_ring_of) f_ring_of e_ring_of)   : FnOk P w K mg base CX0 3 f fd ["state"] (spD 1 p_rings) := by
  refine okD (k := 2) F sc_rings rfl (fun cdv A outer s H E hr => ?_) m_rings
  exact ⟨_, (pss_one (ps_ret (pe_callB (sortSK (K := K) (P := P) (w := w) rfl rfl rfl rfl) (by rfl) B.sorted (by decide +kernel) (pa_cons (scTK (K := K) (P := P) (w := w) rfl rfl rfl (pe_scT (own := [("person", 1)]) (by rfl) (Nat.lt_of_le_of_lt (Nat.add_le_add_left (by decide) _) hr.units) sc_rings.nd (pi_range1 (by rfl) B.range (pa_cons (pe_callB (lenK (K := K) rfl) (by rfl) B.len (by decide +kernel) (pa_cons (pv 0) pa_nil)) pa_nil)) (blkOk_by (own := [("person", 1)]) (N := n_rings) (sc := (defScope s_rings)) (by decide +kernel)) (fun _ _ _ _ _ => (pg_name (i := 1) sc_rings.nd rfl (by first | exact Or.inl rfl | exact Or.inr rfl))) (fun _ _ _ _ _ => (pe_call c_ring_of.ok (hr.mono (by decide)) (by rfl) c_ring_of.g c_ring_of.kp c_ring_of.bd .nil pass0 (pa_cons (pv 0) (pa_cons (pv 1) pa_nil)))))) pa_nil)))),
    (ss_ret (se_sortSc (si_rng1 (sa_cons (se_cb rc_len (sa_cons se_var sa_nil)) sa_nil)) sg_name (se_call mon_ring_of (sa_cons se_var (sa_cons se_var sa_nil)))))⟩
/-! ### height -/
abbrev s_height : Stmt := topS 12
abbrev n_height : List Str := ["state", "person"]
theorem sc_height : FnScope n_height ["state", "person"] (defScope s_height) := ⟨rfl, rfl, rfl, by decide +kernel, rfl, by decide +kernel, by decide +kernel⟩
theorem ok_height {f : Addr} {fd : FuncData} (F : Fun K "height" "height" s_height f fd) (B : Bi mg) {f_check_person : Addr} {e_check_person : FuncData} (c_check_person : Cal P w K mg base "check_person" 1 ["state", "person"] (spD 2 p_check_person) f_check_person e_check_person) {f_ring_begin : Addr} {e_ring_begin : FuncData} (c_ring_begin : Cal P w K mg base "ring_begin" 1 ["state", "route"] (spD 2 p_ring_begin) f_ring_begin e_ring_begin) {f_route_from : Addr} {e_route_from : FuncData} (c_route_from : Cal P w K mg base "route_from" 1 ["pointers", "person"] (spD 2 p_route_from) f_route_from e_route_from)   : FnOk P w K mg base CX0 2 f fd ["state", "person"] (spD 2 p_height) := by
  refine okD (k := 1) F sc_height rfl (fun cdv A outer s H E hr => ?_) m_height
  exact ⟨_, (pss_cons (ps_expr (pe_call c_check_person.ok (hr.mono (by decide)) (by rfl) c_check_person.g c_check_person.kp c_check_person.bd .nil pass0 (pa_cons (pv 0) (pa_cons (pv 1) pa_nil))))
      (pss_one (ps_ret (pe_call c_ring_begin.ok (hr.mono (by decide)) (by rfl) c_ring_begin.g c_ring_begin.kp c_ring_begin.bd .nil pass0 (pa_cons (pv 0) (pa_cons (pe_call c_route_from.ok (hr.mono (by decide)) (by rfl) c_route_from.g c_route_from.kp c_route_from.bd .nil pass0 (pa_cons (pv 0) (pa_cons (pv 1) pa_nil))) pa_nil)))))),
    (ss_seq (ss_drop (se_call mon_check_person (sa_cons se_var (sa_cons se_var sa_nil))))
      (ss_ret (se_call mon_ring_begin (sa_cons se_var (sa_cons (se_call mon_route_from (sa_cons se_var (sa_cons se_var sa_nil))) sa_nil)))))⟩
/-! ### code_of -/
abbrev s_code_of : Stmt := topS 15
abbrev n_code_of : List Str := ["state", "person"]
theorem sc_code_of : FnScope n_code_of ["state"] (defScope s_code_of) := ⟨rfl, rfl, rfl, by decide +kernel, rfl, by decide +kernel, by decide +kernel⟩
theorem ok_code_of {f : Addr} {fd : FuncData} (F : Fun K "code_of" "code_of" s_code_of f fd) (B : Bi mg) {f_height : Addr} {e_height : FuncData} (c_height : Cal P w K mg base "height" 2 ["state", "person"] (spD 2 p_height) f_height e_height) {k_ON_RING : Tok} (G_ON_RING : mg "ON_RING" = some (.int (-1) k_ON_RING))  : FnOk P w K mg base CX0 3 f fd ["state"] (spD 1 p_code_of) := by
  refine okD (k := 2) F sc_code_of rfl (fun cdv A outer s H E hr => ?_) m_code_of
  exact ⟨_, (pss_one (ps_ret (pe_callTy (tupleK (K := K) rfl) (by rfl) B.tuple (by decide +kernel) (pa_cons (pe_lc (own := [("person", 1)]) (by rfl) sc_code_of.nd (pi_range1 (by rfl) B.range (pa_cons (pe_callB (lenK (K := K) rfl) (by rfl) B.len (by decide +kernel) (pa_cons (pv 0) pa_nil)) pa_nil)) (blkOk_by (own := [("person", 1)]) (N := n_code_of) (sc := (defScope s_code_of)) (by decide +kernel)) (fun _ _ _ _ _ => (pg_name (i := 1) sc_code_of.nd rfl (by first | exact Or.inl rfl | exact Or.inr rfl))) (fun _ _ _ _ _ => pts_nil) (fun _ _ _ _ _ => (pe_ifExp (pt_cmpR (eqK (K := K) rfl hr.units) (pe_call c_height.ok (hr.mono (by decide)) (by rfl) c_height.g c_height.kp c_height.bd .nil pass0 (pa_cons (pv 0) (pa_cons (pv 1) pa_nil))) pe_int (nomark _)) (pe_glob (v := .int (-1)) (by rfl) G_ON_RING ⟨_, rfl⟩) (pe_ix (ixK (K := K) rfl) (pv 0) (pv 1) (fun _ _ => rfl))))) pa_nil)))),
    (ss_ret (se_cb rc_tuple (sa_cons (se_lc (si_rng1 (sa_cons (se_cb rc_len (sa_cons se_var sa_nil)) sa_nil)) sg_name st_yes (se_if (st_test (se_op r2_eq (se_call mon_height (sa_cons se_var (sa_cons se_var sa_nil))) se_int)) se_int (se_op r2_ix se_var se_var))) sa_nil)))⟩
/-! ### futures_many -/
abbrev s_futures_many : Stmt := topS 16
abbrev n_futures_many : List Str := ["state", "outside", "person", "inside", "ring"]
theorem sc_futures_many : FnScope n_futures_many ["state"] (defScope s_futures_many) := ⟨rfl, rfl, rfl, by decide +kernel, rfl, by decide +kernel, by decide +kernel⟩
theorem ok_futures_many {f : Addr} {fd : FuncData} (F : Fun K "futures_many" "futures_many" s_futures_many f fd) (B : Bi mg) {f_height : Addr} {e_height : FuncData} (c_height : Cal P w K mg base "height" 2 ["state", "person"] (spD 2 p_height) f_height e_height) {f_way : Addr} {e_way : FuncData} (c_way : Cal P w K mg base "way" 2 ["state", "person"] (spD 2 p_way) f_way e_way) {f_rings : Addr} {e_rings : FuncData} (c_rings : Cal P w K mg base "rings" 3 ["state"] (spD 1 p_rings) f_rings e_rings) {f_product : Addr} {e_product : FuncData} (c_product : Cal P w K mg base "product" 1 ["factors"] (spD 1 p_product) f_product e_product)   : FnOk P w K mg base CX0 4 f fd ["state"] (spD 1 p_futures_many) := by
  refine okD (k := 3) F sc_futures_many rfl (fun cdv A outer s H E hr => ?_) m_futures_many
  exact ⟨_, (pss_cons (ps_setLc (i := 1) (own := [("person", 2)]) (by rfl) sc_futures_many.nd rfl rfl (sw_true rfl rfl rfl (by decide +kernel)) (pi_range1 (by rfl) B.range (pa_cons (pe_callB (lenK (K := K) rfl) (by rfl) B.len (by decide +kernel) (pa_cons (pv 0) pa_nil)) pa_nil)) (blkOk_by (own := [("person", 2)]) (N := n_futures_many) (sc := (defScope s_futures_many)) (by decide +kernel)) (fun _ _ _ _ _ => (pg_name (i := 2) sc_futures_many.nd rfl (by first | exact Or.inl rfl | exact Or.inr rfl))) (fun _ _ _ _ _ => (pts_one (pt_cmpR op_gt (pe_call c_height.ok (hr.mono (by decide)) (by rfl) c_height.g c_height.kp c_height.bd .nil pass0 (pa_cons (pv 0) (pa_cons (pv 2) pa_nil))) pe_int (nomark _)))) (fun _ _ _ _ _ => (pe_callB (lenK (K := K) rfl) (by rfl) B.len (by decide +kernel) (pa_cons (pe_call c_way.ok (hr.mono (by decide)) (by rfl) c_way.g c_way.kp c_way.bd .nil pass0 (pa_cons (pv 0) (pa_cons (pv 2) pa_nil))) pa_nil))))
      (pss_cons (ps_setLc (i := 3) (own := [("ring", 4)]) (by rfl) sc_futures_many.nd rfl rfl (sw_true rfl rfl rfl (by decide +kernel)) (seqK (K := K) rfl (pe_call c_rings.ok (hr.mono (by decide)) (by rfl) c_rings.g c_rings.kp c_rings.bd .nil pass0 (pa_cons (pv 0) pa_nil))) (blkOk_by (own := [("ring", 4)]) (N := n_futures_many) (sc := (defScope s_futures_many)) (by decide +kernel)) (fun _ _ _ _ _ => (pg_name (i := 4) sc_futures_many.nd rfl (by first | exact Or.inl rfl | exact Or.inr rfl))) (fun _ _ _ _ _ => pts_nil) (fun _ _ _ _ _ => (pe_call c_product.ok (hr.mono (by decide)) (by rfl) c_product.g c_product.kp c_product.bd .nil pass0 (pa_cons (pe_op op_mulA (pe_lst (pa_cons (pe_op (addK (K := K) rfl) (pe_callB (lenK (K := K) rfl) (by rfl) B.len (by decide +kernel) (pa_cons (pv 4) pa_nil)) pe_int) pa_nil)) (pe_op op_sub (pe_callB (lenK (K := K) rfl) (by rfl) B.len (by decide +kernel) (pa_cons (pv 4) pa_nil)) pe_int)) pa_nil))))
      (pss_one (ps_ret (pe_op op_mulA (pe_call c_product.ok (hr.mono (by decide)) (by rfl) c_product.g c_product.kp c_product.bd .nil pass0 (pa_cons (pv 1) pa_nil)) (pe_call c_product.ok (hr.mono (by decide)) (by rfl) c_product.g c_product.kp c_product.bd .nil pass0 (pa_cons (pv 3) pa_nil))))))),
    (ss_seq (ss_set false (se_lc (si_rng1 (sa_cons (se_cb rc_len (sa_cons se_var sa_nil)) sa_nil)) sg_name (st_test (se_op r2_B (se_call mon_height (sa_cons se_var (sa_cons se_var sa_nil))) se_int)) (se_cb rc_len (sa_cons (se_call mon_way (sa_cons se_var (sa_cons se_var sa_nil))) sa_nil))))
      (ss_seq (ss_set false (se_lc (si_seq (se_call mon_rings (sa_cons se_var sa_nil))) sg_name st_yes (se_call mon_product (sa_cons (se_op r2_mul (se_lst (sa_cons (se_op r2_add (se_cb rc_len (sa_cons se_var sa_nil)) se_int) sa_nil)) (se_op r2_I (se_cb rc_len (sa_cons se_var sa_nil)) se_int)) sa_nil))))
      (ss_ret (se_op r2_mul (se_call mon_product (sa_cons se_var sa_nil)) (se_call mon_product (sa_cons se_var sa_nil))))))⟩
/-! ### _law_of -/
abbrev s_law_of : Stmt := topS 21
abbrev n_law_of : List Str := ["_law_box_here", "_law_some"]
theorem sc_law_of : FnScope n_law_of ["_law_box_here", "_law_some"] (defScope s_law_of) := ⟨rfl, rfl, rfl, by decide +kernel, rfl, by decide +kernel, by decide +kernel⟩
theorem ok_law_of {f : Addr} {fd : FuncData} (F : Fun K "_law_of" "_law_of" s_law_of f fd) (B : Bi mg) {f_law_take : Addr} {e_law_take : FuncData} (c_law_take : Cal P w K mg base "_law_take" 2 ["_law_box_here", "_law_span"] (spD 2 p_law_take) f_law_take e_law_take)   : FnOk P w K mg base CX0 3 f fd ["_law_box_here", "_law_some"] (spD 2 p_law_pick) := by
  refine okD (k := 2) F sc_law_of rfl (fun cdv A outer s H E hr => ?_) m_law_pick
  exact ⟨_, (pss_one (ps_ret (pe_ix (ixK (K := K) rfl) (pv 1) (pe_call c_law_take.ok (hr.mono (by decide)) (by rfl) c_law_take.g c_law_take.kp c_law_take.bd .nil pass0 (pa_cons (pv 0) (pa_cons (pe_callB (lenK (K := K) rfl) (by rfl) B.len (by decide +kernel) (pa_cons (pv 1) pa_nil)) pa_nil))) (fun _ _ => rfl)))),
    (ss_ret (se_op r2_ix se_var (se_call mon_law_take (sa_cons se_var (sa_cons (se_cb rc_len (sa_cons se_var sa_nil)) sa_nil)))))⟩
/-! ### _law_strewn -/
abbrev s_law_strewn : Stmt := topS 22
abbrev n_law_strewn : List Str := ["_law_box_here", "_law_some", "_law_left", "_law_found"]
theorem sc_law_strewn : FnScope n_law_strewn ["_law_box_here", "_law_some"] (defScope s_law_strewn) := ⟨rfl, rfl, rfl, by decide +kernel, rfl, by decide +kernel, by decide +kernel⟩
theorem ok_law_strewn {f : Addr} {fd : FuncData} (F : Fun K "_law_strewn" "_law_strewn" s_law_strewn f fd) (B : Bi mg) {f_law_take : Addr} {e_law_take : FuncData} (c_law_take : Cal P w K mg base "_law_take" 2 ["_law_box_here", "_law_span"] (spD 2 p_law_take) f_law_take e_law_take)   : FnOk P w K mg base CX0 3 f fd ["_law_box_here", "_law_some"] (spD 2 p_law_strewn_2) := by
  refine okD (k := 2) F sc_law_strewn rfl (fun cdv A outer s H E hr => ?_) m_law_strewn_2
  exact ⟨_, (pss_cons (ps_par (i := 2) (j := 3) (by rfl) sc_law_strewn.nd rfl rfl (by decide) rfl rfl (pa_cons (pe_callTy (listK (K := K) rfl) (by rfl) B.list (by decide +kernel) (pa_cons (pv 1) pa_nil)) (pa_cons (pe_lst pa_nil) pa_nil)) (by rfl))
      (pss_cons (ps_while PassesOwn.never (pt_cmpR (neK (K := K) rfl hr.units) (pv 2) (pe_lst pa_nil) (nomark _)) (pss_one (ps_expr (bmK (K := K) rfl (pe_bm PySem.F.plainAttrs_list PySem.F.slot_list_append PySem.F.type_list_append mt_append (pv 3) (pa_cons (bmK (K := K) rfl (pe_bm PySem.F.plainAttrs_list PySem.F.slot_list_pop PySem.F.type_list_pop mt_popAt (pv 2) (pa_cons (pe_call c_law_take.ok (hr.mono (by decide)) (by rfl) c_law_take.g c_law_take.kp c_law_take.bd .nil pass0 (pa_cons (pv 0) (pa_cons (pe_callB (lenK (K := K) rfl) (by rfl) B.len (by decide +kernel) (pa_cons (pv 2) pa_nil)) pa_nil))) pa_nil))) pa_nil))))))
      (pss_one (ps_ret (pv 3))))),
    (ss_seq (ss_par (se_cb rc_list (sa_cons se_var sa_nil)) (se_lst sa_nil))
      (ss_seq (ss_while (st_test (se_op r2_ne se_var (se_lst sa_nil))) (ss_appPop (by decide) (se_call mon_law_take (sa_cons se_var (sa_cons (se_cb rc_len (sa_cons se_var sa_nil)) sa_nil)))))
      (ss_ret se_var)))⟩
/-! ### _law_same -/
abbrev s_law_same : Stmt := topS 23
abbrev n_law_same : List Str := ["_law_found", "_law_due", "_law_one", "_law_two"]
theorem sc_law_same : FnScope n_law_same ["_law_found", "_law_due"] (defScope s_law_same) := ⟨rfl, rfl, rfl, by decide +kernel, rfl, by decide +kernel, by decide +kernel⟩
theorem ok_law_same {f : Addr} {fd : FuncData} (F : Fun K "_law_same" "_law_same" s_law_same f fd) (B : Bi mg) (g : mg "_law_same" = some (.ref f)) (bd : Binds K fd ["_law_found", "_law_due"] []) : ∀ d, FnOk P w K mg base CX0 (d + 1) f fd ["_law_found", "_law_due"] (spD 2 (p_law_same_2 d))
  | 0 => fn_none (spD_none fun args c Q ⟨a, b, _, _, h, _⟩ => by unfold dep at h; cases h)
  | d + 1 => by
    have c_law_same : Cal P w K mg base "_law_same" (d + 1) ["_law_found", "_law_due"] (spD 2 (p_law_same_2 d)) f fd := ⟨ok_law_same F B g bd d, g, F.kp, bd⟩
    refine okD (k := d + 1) F sc_law_same rfl (fun cdv A outer s H E hr => ?_) m_law_same_2
    exact ⟨_, (pss_cons (ps_if (pt_truth (pe_callB (isiTK (K := K) rfl) (by rfl) B.isinstance (by decide +kernel) (pa_cons (pv 1) (pa_cons (pe_tup (pa_cons (pe_bltn (v := .ty "list") (by rfl) B.list (by decide +kernel) rfl) (pa_cons (pe_bltn (v := .ty "tuple") (by rfl) B.tuple (by decide +kernel) rfl) pa_nil))) pa_nil))) (by intro _; rfl)) (pss_cons (ps_if (PW.pt (pw_or (pt_cmpR (neK (K := K) rfl hr.units) (pe_callB (isiK (K := K) rfl) (by rfl) B.isinstance (by decide +kernel) (pa_cons (pv 0) (pa_cons (pe_bltn (v := .ty "list") (by rfl) B.list (by decide +kernel) rfl) pa_nil))) (pe_callB (isiK (K := K) rfl) (by rfl) B.isinstance (by decide +kernel) (pa_cons (pv 1) (pa_cons (pe_bltn (v := .ty "list") (by rfl) B.list (by decide +kernel) rfl) pa_nil))) (nomark _)) (pw_or1 (pt_cmpR (neK (K := K) rfl hr.units) (pe_callB (isiK (K := K) rfl) (by rfl) B.isinstance (by decide +kernel) (pa_cons (pv 0) (pa_cons (pe_bltn (v := .ty "tuple") (by rfl) B.tuple (by decide +kernel) rfl) pa_nil))) (pe_callB (isiK (K := K) rfl) (by rfl) B.isinstance (by decide +kernel) (pa_cons (pv 1) (pa_cons (pe_bltn (v := .ty "tuple") (by rfl) B.tuple (by decide +kernel) rfl) pa_nil))) (nomark _))))) (pss_one (ps_ret pe_bl)) pss_nil)
      (pss_one (ps_ret (pe_and (pe_cmpR (eqK (K := K) rfl hr.units) (pe_callB (lenK (K := K) rfl) (by rfl) B.len (by decide +kernel) (pa_cons (pv 0) pa_nil)) (pe_callB (lenK (K := K) rfl) (by rfl) B.len (by decide +kernel) (pa_cons (pv 1) pa_nil)) (nomark _)) (pe_one (pe_callB (allK (K := K) rfl rfl) (by rfl) B.all (by decide +kernel) (pa_cons (pe_lc (own := [("_law_one", 2), ("_law_two", 3)]) (by rfl) sc_law_same.nd (zipA (K := K) rfl (by rfl) B.zip (pa_cons (pv 0) (pa_cons (pv 1) pa_nil))) (blkOk_by (own := [("_law_one", 2), ("_law_two", 3)]) (N := n_law_same) (sc := (defScope s_law_same)) (by decide +kernel)) (fun _ _ _ _ _ => (gtupK (K := K) rfl (pg_tup rfl (pgs_cons (pg_name (i := 2) sc_law_same.nd rfl (by first | exact Or.inl rfl | exact Or.inr rfl)) (pgs_cons (pg_name (i := 3) sc_law_same.nd rfl (by first | exact Or.inl rfl | exact Or.inr rfl)) pgs_nil))))) (fun _ _ _ _ _ => pts_nil) (fun _ _ _ _ _ => (pe_call c_law_same.ok hr (by rfl) c_law_same.g c_law_same.kp c_law_same.bd .nil pass0 (pa_cons (pv 2) (pa_cons (pv 3) pa_nil))))) pa_nil))))))) pss_nil)
      (pss_cons (ps_if (PW.pt (pw_or (pt_cmpR op_isN (pv 1) pe_non (nomark _)) (pw_or1 (pt_truth (pe_callB (isiTK (K := K) rfl) (by rfl) B.isinstance (by decide +kernel) (pa_cons (pv 1) (pa_cons (pe_tup (pa_cons (pe_bltn (v := .ty "str") (by rfl) B.str (by decide +kernel) rfl) (pa_cons (pe_bltn (v := .ty "bool") (by rfl) B.bool (by decide +kernel) rfl) pa_nil))) pa_nil))) (by intro _; rfl))))) (pss_one (ps_ret (pe_and (pe_cmpR (eqK (K := K) rfl hr.units) (pv 0) (pv 1) (nomark _)) (pe_and (pe_cmpR (eqK (K := K) rfl hr.units) (pe_callB (isiK (K := K) rfl) (by rfl) B.isinstance (by decide +kernel) (pa_cons (pv 0) (pa_cons (pe_bltn (v := .ty "bool") (by rfl) B.bool (by decide +kernel) rfl) pa_nil))) (pe_callB (isiK (K := K) rfl) (by rfl) B.isinstance (by decide +kernel) (pa_cons (pv 1) (pa_cons (pe_bltn (v := .ty "bool") (by rfl) B.bool (by decide +kernel) rfl) pa_nil))) (nomark _)) (pe_one (pe_cmpR (eqK (K := K) rfl hr.units) (pe_cmpR op_isN (pv 0) pe_non (nomark _)) (pe_cmpR op_isN (pv 1) pe_non (nomark _)) (nomark _))))))) pss_nil)
      (pss_one (ps_ret (pe_and (pe_callB (isiK (K := K) rfl) (by rfl) B.isinstance (by decide +kernel) (pa_cons (pv 0) (pa_cons (pe_bltn (v := .ty "int") (by rfl) B.int (by decide +kernel) rfl) pa_nil))) (pe_and (pe_not (pe_callB (isiK (K := K) rfl) (by rfl) B.isinstance (by decide +kernel) (pa_cons (pv 0) (pa_cons (pe_bltn (v := .ty "bool") (by rfl) B.bool (by decide +kernel) rfl) pa_nil)))) (pe_one (pe_cmpR (eqK (K := K) rfl hr.units) (pv 0) (pv 1) (nomark _))))))))),
      (ss_seq (ss_if (st_truth (se_isi2 (.inr (.inr (.inr (.inl rfl)))) (.inr (.inr (.inr (.inr rfl)))) se_var)) (ss_seq (ss_if (st_or (st_test (se_op r2_ne (se_isi (.inr (.inr (.inr (.inl rfl)))) se_var) (se_isi (.inr (.inr (.inr (.inl rfl)))) se_var))) (st_test (se_op r2_ne (se_isi (.inr (.inr (.inr (.inr rfl)))) se_var) (se_isi (.inr (.inr (.inr (.inr rfl)))) se_var)))) (ss_ret se_bl) ss_next)
      (ss_ret (se_andV (se_op r2_eq (se_cb rc_len (sa_cons se_var sa_nil)) (se_cb rc_len (sa_cons se_var sa_nil))) (se_cb rc_all (sa_cons (se_lc (si_zip (sa_cons se_var (sa_cons se_var sa_nil))) (sg_tup (sgs_cons sg_name (sgs_cons sg_name sgs_nil))) st_yes (se_call (mon_law_same_2 d) (sa_cons se_var (sa_cons se_var sa_nil)))) sa_nil))))) ss_next)
      (ss_seq (ss_if (st_or (st_test (se_op r2_isN se_var se_non)) (st_truth (se_isi2 (.inr (.inr (.inl rfl))) (.inr (.inl rfl)) se_var))) (ss_ret (se_andV (se_op r2_eq se_var se_var) (se_andV (se_op r2_eq (se_isi (.inr (.inl rfl)) se_var) (se_isi (.inr (.inl rfl)) se_var)) (se_op r2_eq (se_op r2_isN se_var se_non) (se_op r2_isN se_var se_non))))) ss_next)
      (ss_ret (se_andV (se_isi (.inl rfl) se_var) (se_andV (se_notV (se_isi (.inr (.inl rfl)) se_var)) (se_op r2_eq se_var se_var))))))⟩
/-! ### _law_part -/
abbrev s_law_part : Stmt := topS 24
abbrev n_law_part : List Str := ["_law_box_here", "_law_size", "_law_sort", "_law_ringed", "_law_found", "_law_who"]
theorem sc_law_part : FnScope n_law_part ["_law_box_here", "_law_size"] (defScope s_law_part) := ⟨rfl, rfl, rfl, by decide +kernel, rfl, by decide +kernel, by decide +kernel⟩
theorem ok_law_part {f : Addr} {fd : FuncData} (F : Fun K "_law_part" "_law_part" s_law_part f fd) (B : Bi mg) {f_law_take : Addr} {e_law_take : FuncData} (c_law_take : Cal P w K mg base "_law_take" 2 ["_law_box_here", "_law_span"] (spD 2 p_law_take) f_law_take e_law_take)   : FnOk P w K mg base CX0 3 f fd ["_law_box_here", "_law_size"] (spD 2 p_law_part) := by
  refine okD (k := 2) F sc_law_part rfl (fun cdv A outer s H E hr => ?_) m_law_part
  exact ⟨_, (pss_cons (ps_set (i := 2) sc_law_part.nd rfl (by first | exact Or.inl rfl | exact Or.inr rfl) (pe_call c_law_take.ok (hr.mono (by decide)) (by rfl) c_law_take.g c_law_take.kp c_law_take.bd .nil pass0 (pa_cons (pv 0) (pa_cons pe_int pa_nil))))
      (pss_cons (ps_par (i := 3) (j := 4) (by rfl) sc_law_part.nd rfl rfl (by decide) rfl rfl (pa_cons (pe_ix (ixK (K := K) rfl) (pe_lst (pa_cons pe_int (pa_cons pe_int (pa_cons (pv 1) (pa_cons (pe_op (addK (K := K) rfl) pe_int (pe_call c_law_take.ok (hr.mono (by decide)) (by rfl) c_law_take.g c_law_take.kp c_law_take.bd .nil pass0 (pa_cons (pv 0) (pa_cons (pv 1) pa_nil)))) (pa_cons pe_int pa_nil)))))) (pv 2) (fun _ _ => rfl)) (pa_cons (pe_lst pa_nil) pa_nil)) (by rfl))
      (pss_cons (ps_for PassesOwn.never rfl (pi_range1 (by rfl) B.range (pa_cons (pv 1) pa_nil)) (pg_name (i := 5) sc_law_part.nd rfl (by first | exact Or.inl rfl | exact Or.inr rfl)) (pss_one (ps_if (pt_cmpR (eqK (K := K) rfl hr.units) (pv 2) pe_int (nomark _)) (pss_one (ps_expr (bmK (K := K) rfl (pe_bm PySem.F.plainAttrs_list PySem.F.slot_list_append PySem.F.type_list_append mt_append (pv 4) (pa_cons (pe_call c_law_take.ok (hr.mono (by decide)) (by rfl) c_law_take.g c_law_take.kp c_law_take.bd .nil pass0 (pa_cons (pv 0) (pa_cons (pv 1) pa_nil))) pa_nil))))) (pss_one (ps_if (pt_cmpR op_lt (pv 5) (pv 3) (nomark _)) (pss_one (ps_expr (bmK (K := K) rfl (pe_bm PySem.F.plainAttrs_list PySem.F.slot_list_append PySem.F.type_list_append mt_append (pv 4) (pa_cons (pe_op op_mod (pe_op (addK (K := K) rfl) (pv 5) pe_int) (pv 3)) pa_nil))))) (pss_one (ps_expr (bmK (K := K) rfl (pe_bm PySem.F.plainAttrs_list PySem.F.slot_list_append PySem.F.type_list_append mt_append (pv 4) (pa_cons (pe_ifExp (pt_cmpR (eqK (K := K) rfl hr.units) (pv 2) pe_int (nomark _)) (pe_op op_sub (pv 5) pe_int) (pe_call c_law_take.ok (hr.mono (by decide)) (by rfl) c_law_take.g c_law_take.kp c_law_take.bd .nil pass0 (pa_cons (pv 0) (pa_cons (pv 5) pa_nil)))) pa_nil))))))))))
      (pss_one (ps_ret (pv 4)))))),
    (ss_seq (ss_set false (se_call mon_law_take (sa_cons se_var (sa_cons se_int sa_nil))))
      (ss_seq (ss_par (se_op r2_ix (se_lst (sa_cons se_int (sa_cons se_int (sa_cons se_var (sa_cons (se_op r2_add se_int (se_call mon_law_take (sa_cons se_var (sa_cons se_var sa_nil)))) (sa_cons se_int sa_nil)))))) se_var) (se_lst sa_nil))
      (ss_seq (ss_for (si_rng1 (sa_cons se_var sa_nil)) sg_name (ss_if (st_test (se_op r2_eq se_var se_int)) (ss_append (se_call mon_law_take (sa_cons se_var (sa_cons se_var sa_nil)))) (ss_if (st_test (se_op r2_B se_var se_var)) (ss_append (se_op r2_C (se_op r2_add se_var se_int) se_var)) (ss_append (se_if (st_test (se_op r2_eq se_var se_int)) (se_op r2_I se_var se_int) (se_call mon_law_take (sa_cons se_var (sa_cons se_var sa_nil))))))))
      (ss_ret se_var))))⟩
/-! ### _law_mixed -/
abbrev s_law_mixed : Stmt := topS 25
abbrev n_law_mixed : List Str := ["_law_box_here", "_law_found", "_law_tags", "_law_here", "_law_who", "_law_aim"]
theorem sc_law_mixed : FnScope n_law_mixed ["_law_box_here", "_law_found"] (defScope s_law_mixed) := ⟨rfl, rfl, rfl, by decide +kernel, rfl, by decide +kernel, by decide +kernel⟩
theorem ok_law_mixed {f : Addr} {fd : FuncData} (F : Fun K "_law_mixed" "_law_mixed" s_law_mixed f fd) (B : Bi mg) {f_law_strewn : Addr} {e_law_strewn : FuncData} (c_law_strewn : Cal P w K mg base "_law_strewn" 3 ["_law_box_here", "_law_some"] (spD 2 p_law_strewn_2) f_law_strewn e_law_strewn)   : FnOk P w K mg base CX0 4 f fd ["_law_box_here", "_law_found"] (spD 2 p_law_mixed) := by
  refine okD (k := 3) F sc_law_mixed rfl (fun cdv A outer s H E hr => ?_) m_law_mixed
  exact ⟨_, (pss_cons (ps_par (i := 2) (j := 3) (by rfl) sc_law_mixed.nd rfl rfl (by decide) rfl rfl (pa_cons (pe_call c_law_strewn.ok (hr.mono (by decide)) (by rfl) c_law_strewn.g c_law_strewn.kp c_law_strewn.bd .nil pass0 (pa_cons (pv 0) (pa_cons (pe_listRg rfl (by rfl) B.list (prg_1 (by rfl) B.range (pe_callB (lenK (K := K) rfl) (by rfl) B.len (by decide +kernel) (pa_cons (pv 1) pa_nil)))) pa_nil))) (pa_cons (pe_op op_mulA (pe_lst (pa_cons pe_int pa_nil)) (pe_callB (lenK (K := K) rfl) (by rfl) B.len (by decide +kernel) (pa_cons (pv 1) pa_nil))) pa_nil)) (by rfl))
      (pss_cons (ps_for PassesOwn.never rfl (enumA (K := K) rfl (by rfl) B.enumerate (pa_cons (pv 1) pa_nil)) (gtupK (K := K) rfl (pg_tup rfl (pgs_cons (pg_name (i := 4) sc_law_mixed.nd rfl (by first | exact Or.inl rfl | exact Or.inr rfl)) (pgs_cons (pg_name (i := 5) sc_law_mixed.nd rfl (by first | exact Or.inl rfl | exact Or.inr rfl)) pgs_nil)))) (pss_one (ps_asg (pe_ix (ixK (K := K) rfl) (pv 2) (pv 5) (fun _ _ => rfl)) (pg_sub (pv 3) (pe_ix (ixK (K := K) rfl) (pv 2) (pv 4) (fun _ _ => rfl)) set_list))))
      (pss_one (ps_ret (pe_callTy (tupleK (K := K) rfl) (by rfl) B.tuple (by decide +kernel) (pa_cons (pv 3) pa_nil)))))),
    (ss_seq (ss_par (se_call mon_law_strewn_2 (sa_cons se_var (sa_cons (se_listRg (se_cb rc_len (sa_cons se_var sa_nil))) sa_nil))) (se_op r2_mul (se_lst (sa_cons se_int sa_nil)) (se_cb rc_len (sa_cons se_var sa_nil))))
      (ss_seq (ss_for (si_enum (sa_cons se_var sa_nil)) (sg_tup (sgs_cons sg_name (sgs_cons sg_name sgs_nil))) (ss_setIx (se_op r2_ix se_var se_var) (se_op r2_ix se_var se_var)))
      (ss_ret (se_cb rc_tuple (sa_cons se_var sa_nil)))))⟩
/-! ### _law_drawn -/
abbrev s_law_drawn : Stmt := topS 26
abbrev n_law_drawn : List Str := ["_law_box_here", "_law_most", "_law_size", "_law_found", "_law_left", "_law_some", "_law_aim"]
theorem sc_law_drawn : FnScope n_law_drawn ["_law_box_here", "_law_most"] (defScope s_law_drawn) := ⟨rfl, rfl, rfl, by decide +kernel, rfl, by decide +kernel, by decide +kernel⟩
theorem ok_law_drawn {f : Addr} {fd : FuncData} (F : Fun K "_law_drawn" "_law_drawn" s_law_drawn f fd) (B : Bi mg) {f_law_take : Addr} {e_law_take : FuncData} (c_law_take : Cal P w K mg base "_law_take" 2 ["_law_box_here", "_law_span"] (spD 2 p_law_take) f_law_take e_law_take) {f_law_part : Addr} {e_law_part : FuncData} (c_law_part : Cal P w K mg base "_law_part" 3 ["_law_box_here", "_law_size"] (spD 2 p_law_part) f_law_part e_law_part) {f_law_of : Addr} {e_law_of : FuncData} (c_law_of : Cal P w K mg base "_law_of" 3 ["_law_box_here", "_law_some"] (spD 2 p_law_pick) f_law_of e_law_of) {f_law_mixed : Addr} {e_law_mixed : FuncData} (c_law_mixed : Cal P w K mg base "_law_mixed" 4 ["_law_box_here", "_law_found"] (spD 2 p_law_mixed) f_law_mixed e_law_mixed)   : FnOk P w K mg base CX0 5 f fd ["_law_box_here", "_law_most"] (spD 2 p_law_drawn) := by
  refine okD (k := 4) F sc_law_drawn rfl (fun cdv A outer s H E hr => ?_) m_law_drawn
  exact ⟨_, (pss_cons (ps_asg (pe_tupS (pa_cons (pe_op (addK (K := K) rfl) pe_int (pe_call c_law_take.ok (hr.mono (by decide)) (by rfl) c_law_take.g c_law_take.kp c_law_take.bd .nil pass0 (pa_cons (pv 0) (pa_cons (pv 1) pa_nil)))) (pa_cons (pe_lst pa_nil) pa_nil))) (gtupK (K := K) rfl (pg_tup rfl (pgs_cons (pg_name (i := 2) sc_law_drawn.nd rfl (by first | exact Or.inl rfl | exact Or.inr rfl)) (pgs_cons (pg_name (i := 3) sc_law_drawn.nd rfl (by first | exact Or.inl rfl | exact Or.inr rfl)) pgs_nil)))))
      (pss_cons (ps_while PassesOwn.never (pt_cmpR op_lt (pe_callB (lenK (K := K) rfl) (by rfl) B.len (by decide +kernel) (pa_cons (pv 3) pa_nil)) (pv 2) (nomark _)) (pss_cons (ps_set (i := 4) sc_law_drawn.nd rfl (by first | exact Or.inl rfl | exact Or.inr rfl) (pe_op op_sub (pv 2) (pe_callB (lenK (K := K) rfl) (by rfl) B.len (by decide +kernel) (pa_cons (pv 3) pa_nil))))
      (pss_cons (ps_set (i := 5) sc_law_drawn.nd rfl (by first | exact Or.inl rfl | exact Or.inr rfl) (pe_call c_law_part.ok (hr.mono (by decide)) (by rfl) c_law_part.g c_law_part.kp c_law_part.bd .nil pass0 (pa_cons (pv 0) (pa_cons (pe_call c_law_of.ok (hr.mono (by decide)) (by rfl) c_law_of.g c_law_of.kp c_law_of.bd .nil pass0 (pa_cons (pv 0) (pa_cons (pe_lst (pa_cons (pv 4) (pa_cons (pv 4) (pa_cons (pe_op (addK (K := K) rfl) pe_int (pe_call c_law_take.ok (hr.mono (by decide)) (by rfl) c_law_take.g c_law_take.kp c_law_take.bd .nil pass0 (pa_cons (pv 0) (pa_cons (pv 4) pa_nil)))) pa_nil)))) pa_nil))) pa_nil))))
      (pss_one (ps_set (i := 3) sc_law_drawn.nd rfl (by first | exact Or.inl rfl | exact Or.inr rfl) (pe_op (addK (K := K) rfl) (pv 3) (pe_lc (own := [("_law_aim", 6)]) (by rfl) sc_law_drawn.nd (seqK (K := K) rfl (pv 5)) (blkOk_by (own := [("_law_aim", 6)]) (N := n_law_drawn) (sc := (defScope s_law_drawn)) (by decide +kernel)) (fun _ _ _ _ _ => (pg_name (i := 6) sc_law_drawn.nd rfl (by first | exact Or.inl rfl | exact Or.inr rfl))) (fun _ _ _ _ _ => pts_nil) (fun _ _ _ _ _ => (pe_op (addK (K := K) rfl) (pe_callB (lenK (K := K) rfl) (by rfl) B.len (by decide +kernel) (pa_cons (pv 3) pa_nil)) (pv 6))))))))))
      (pss_one (ps_ret (pe_call c_law_mixed.ok (hr.mono (by decide)) (by rfl) c_law_mixed.g c_law_mixed.kp c_law_mixed.bd .nil pass0 (pa_cons (pv 0) (pa_cons (pv 3) pa_nil))))))),
    (ss_seq (ss_parT (se_op r2_add se_int (se_call mon_law_take (sa_cons se_var (sa_cons se_var sa_nil)))) (se_lst sa_nil))
      (ss_seq (ss_while (st_test (se_op r2_B (se_cb rc_len (sa_cons se_var sa_nil)) se_var)) (ss_seq (ss_set false (se_op r2_I se_var (se_cb rc_len (sa_cons se_var sa_nil))))
      (ss_seq (ss_set false (se_call mon_law_part (sa_cons se_var (sa_cons (se_call mon_law_pick (sa_cons se_var (sa_cons (se_lst (sa_cons se_var (sa_cons se_var (sa_cons (se_op r2_add se_int (se_call mon_law_take (sa_cons se_var (sa_cons se_var sa_nil)))) sa_nil)))) sa_nil))) sa_nil))))
      (ss_set false (se_op r2_add se_var (se_lc (si_seq se_var) sg_name st_yes (se_op r2_add (se_cb rc_len (sa_cons se_var sa_nil)) se_var)))))))
      (ss_ret (se_call mon_law_mixed (sa_cons se_var (sa_cons se_var sa_nil))))))⟩
/-! ### _law_met -/
abbrev s_law_met : Stmt := topS 27
abbrev n_law_met : List Str := ["_law_here", "_law_who", "_law_found"]
theorem sc_law_met : FnScope n_law_met ["_law_here", "_law_who"] (defScope s_law_met) := ⟨rfl, rfl, rfl, by decide +kernel, rfl, by decide +kernel, by decide +kernel⟩
theorem ok_law_met {f : Addr} {fd : FuncData} (F : Fun K "_law_met" "_law_met" s_law_met f fd) (B : Bi mg)    : FnOk P w K mg base CX0 1 f fd ["_law_here", "_law_who"] (spD 2 p_law_met) := by
  refine okD (k := 0) F sc_law_met rfl (fun cdv A outer s H E hr => ?_) m_law_met
  exact ⟨_, (pss_cons (ps_set (i := 2) sc_law_met.nd rfl (by first | exact Or.inl rfl | exact Or.inr rfl) (pe_lst pa_nil))
      (pss_cons (ps_while PassesOwn.never (pt_cmpR (notInK (K := K) rfl (hu65 hr)) (pe_ix (ixK (K := K) rfl) (pv 0) (pv 1) (fun _ _ => rfl)) (pv 2) (by rfl)) (pss_cons (ps_set (i := 1) sc_law_met.nd rfl (by first | exact Or.inl rfl | exact Or.inr rfl) (pe_ix (ixK (K := K) rfl) (pv 0) (pv 1) (fun _ _ => rfl)))
      (pss_one (ps_expr (bmK (K := K) rfl (pe_bm PySem.F.plainAttrs_list PySem.F.slot_list_append PySem.F.type_list_append mt_append (pv 2) (pa_cons (pv 1) pa_nil)))))))
      (pss_one (ps_ret (pv 2))))),
    (ss_seq (ss_set true (se_lst sa_nil))
      (ss_seq (ss_while (st_test (se_op r2_notIn (se_op r2_ix se_var se_var) se_var)) (ss_seq (ss_set false (se_op r2_ix se_var se_var))
      (ss_append se_var)))
      (ss_ret se_var)))⟩
/-! ### _law_ring -/
abbrev s_law_ring : Stmt := topS 28
abbrev n_law_ring : List Str := ["_law_here", "_law_who", "_law_lap", "_law_at"]
theorem sc_law_ring : FnScope n_law_ring ["_law_here", "_law_who"] (defScope s_law_ring) := ⟨rfl, rfl, rfl, by decide +kernel, rfl, by decide +kernel, by decide +kernel⟩
theorem ok_law_ring {f : Addr} {fd : FuncData} (F : Fun K "_law_ring" "_law_ring" s_law_ring f fd) (B : Bi mg) {f_law_met : Addr} {e_law_met : FuncData} (c_law_met : Cal P w K mg base "_law_met" 1 ["_law_here", "_law_who"] (spD 2 p_law_met) f_law_met e_law_met)   : FnOk P w K mg base CX0 2 f fd ["_law_here", "_law_who"] (spD 2 p_law_ring) := by
  refine okD (k := 1) F sc_law_ring rfl (fun cdv A outer s H E hr => ?_) m_law_ring
  exact ⟨_, (pss_cons (ps_set (i := 2) sc_law_ring.nd rfl (by first | exact Or.inl rfl | exact Or.inr rfl) (pe_call c_law_met.ok (hr.mono (by decide)) (by rfl) c_law_met.g c_law_met.kp c_law_met.bd .nil pass0 (pa_cons (pv 0) (pa_cons (pe_ix (ixK (K := K) rfl) (pe_call c_law_met.ok (hr.mono (by decide)) (by rfl) c_law_met.g c_law_met.kp c_law_met.bd .nil pass0 (pa_cons (pv 0) (pa_cons (pv 1) pa_nil))) (pe_un un_neg pe_int) (fun _ _ => rfl)) pa_nil))))
      (pss_cons (ps_set (i := 3) sc_law_ring.nd rfl (by first | exact Or.inl rfl | exact Or.inr rfl) (indexK (K := K) rfl (pe_index (pv 2) (pa_cons (pe_callB (minK (K := K) rfl rfl) (by rfl) B.min (by decide +kernel) (pa_cons (pv 2) pa_nil)) pa_nil))))
      (pss_one (ps_ret (pe_callTy (tupleK (K := K) rfl) (by rfl) B.tuple (by decide +kernel) (pa_cons (pe_op (addK (K := K) rfl) (pe_slice (slK (K := K) rfl) (pv 2) (po_some (pv 3)) po_none) (pe_slice (slK (K := K) rfl) (pv 2) po_none (po_some (pv 3)))) pa_nil)))))),
    (ss_seq (ss_set false (se_call mon_law_met (sa_cons se_var (sa_cons (se_op r2_ix (se_call mon_law_met (sa_cons se_var (sa_cons se_var sa_nil))) (se_un ru_neg se_int)) sa_nil))))
      (ss_seq (ss_set false (se_index se_var (se_cb rc_min (sa_cons se_var sa_nil))))
      (ss_ret (se_cb rc_tuple (sa_cons (se_op r2_add (se_sl rs_sl se_var (so_some se_var) so_none) (se_sl rs_sl se_var so_none (so_some se_var))) sa_nil)))))⟩
/-! ### _law_rings -/
abbrev s_law_rings : Stmt := topS 29
abbrev n_law_rings : List Str := ["_law_here", "_law_who"]
theorem sc_law_rings : FnScope n_law_rings ["_law_here"] (defScope s_law_rings) := ⟨rfl, rfl, rfl, by decide +kernel, rfl, by decide +kernel, by decide +kernel⟩
theorem ok_law_rings {f : Addr} {fd : FuncData} (F : Fun K "_law_rings" "_law_rings" s_law_rings f fd) (B : Bi mg) {f_law_ring : Addr} {e_law_ring : FuncData} (c_law_ring : Cal P w K mg base "_law_ring" 2 ["_law_here", "_law_who"] (spD 2 p_law_ring) f_law_ring e_law_ring)   : FnOk P w K mg base CX0 3 f fd ["_law_here"] (spD 1 p_law_rings) := by
  refine okD (k := 2) F sc_law_rings rfl (fun cdv A outer s H E hr => ?_) m_law_rings
  exact ⟨_, (pss_one (ps_ret (pe_callB (sortSK (K := K) (P := P) (w := w) rfl rfl rfl rfl) (by rfl) B.sorted (by decide +kernel) (pa_cons (pe_callTy (setTK (K := K) (P := P) (w := w) rfl rfl rfl rfl hr.units) (by rfl) B.set (by decide +kernel) (pa_cons (pe_lc (own := [("_law_who", 1)]) (by rfl) sc_law_rings.nd (pi_range1 (by rfl) B.range (pa_cons (pe_callB (lenK (K := K) rfl) (by rfl) B.len (by decide +kernel) (pa_cons (pv 0) pa_nil)) pa_nil)) (blkOk_by (own := [("_law_who", 1)]) (N := n_law_rings) (sc := (defScope s_law_rings)) (by decide +kernel)) (fun _ _ _ _ _ => (pg_name (i := 1) sc_law_rings.nd rfl (by first | exact Or.inl rfl | exact Or.inr rfl))) (fun _ _ _ _ _ => pts_nil) (fun _ _ _ _ _ => (pe_call c_law_ring.ok (hr.mono (by decide)) (by rfl) c_law_ring.g c_law_ring.kp c_law_ring.bd .nil pass0 (pa_cons (pv 0) (pa_cons (pv 1) pa_nil))))) pa_nil)) pa_nil)))),
    (ss_ret (se_sortSet (se_lc (si_rng1 (sa_cons (se_cb rc_len (sa_cons se_var sa_nil)) sa_nil)) sg_name st_yes (se_call mon_law_ring (sa_cons se_var (sa_cons se_var sa_nil))))))⟩
/-! ### _law_code -/
abbrev s_law_code : Stmt := topS 30
abbrev n_law_code : List Str := ["_law_there", "_law_who"]
theorem sc_law_code : FnScope n_law_code ["_law_there"] (defScope s_law_code) := ⟨rfl, rfl, rfl, by decide +kernel, rfl, by decide +kernel, by decide +kernel⟩
theorem ok_law_code {f : Addr} {fd : FuncData} (F : Fun K "_law_code" "_law_code" s_law_code f fd) (B : Bi mg) {f_law_met : Addr} {e_law_met : FuncData} (c_law_met : Cal P w K mg base "_law_met" 1 ["_law_here", "_law_who"] (spD 2 p_law_met) f_law_met e_law_met)   : FnOk P w K mg base CX0 2 f fd ["_law_there"] (spD 1 p_law_code) := by
  refine okD (k := 1) F sc_law_code rfl (fun cdv A outer s H E hr => ?_) m_law_code
  exact ⟨_, (pss_one (ps_ret (pe_callTy (tupleK (K := K) rfl) (by rfl) B.tuple (by decide +kernel) (pa_cons (pe_lc (own := [("_law_who", 1)]) (by rfl) sc_law_code.nd (pi_range1 (by rfl) B.range (pa_cons (pe_callB (lenK (K := K) rfl) (by rfl) B.len (by decide +kernel) (pa_cons (pv 0) pa_nil)) pa_nil)) (blkOk_by (own := [("_law_who", 1)]) (N := n_law_code) (sc := (defScope s_law_code)) (by decide +kernel)) (fun _ _ _ _ _ => (pg_name (i := 1) sc_law_code.nd rfl (by first | exact Or.inl rfl | exact Or.inr rfl))) (fun _ _ _ _ _ => pts_nil) (fun _ _ _ _ _ => (pe_ifExp (pt_cmpR (inK (K := K) rfl (hu65 hr)) (pv 1) (pe_call c_law_met.ok (hr.mono (by decide)) (by rfl) c_law_met.g c_law_met.kp c_law_met.bd .nil pass0 (pa_cons (pv 0) (pa_cons (pv 1) pa_nil))) (by rfl)) (pe_un un_neg pe_int) (pe_ix (ixK (K := K) rfl) (pv 0) (pv 1) (fun _ _ => rfl))))) pa_nil)))),
    (ss_ret (se_cb rc_tuple (sa_cons (se_lc (si_rng1 (sa_cons (se_cb rc_len (sa_cons se_var sa_nil)) sa_nil)) sg_name st_yes (se_if (st_test (se_op r2_in se_var (se_call mon_law_met (sa_cons se_var (sa_cons se_var sa_nil))))) (se_un ru_neg se_int) (se_op r2_ix se_var se_var))) sa_nil)))⟩
/-! ### _law_lots -/
abbrev s_law_lots : Stmt := topS 31
abbrev n_law_lots : List Str := ["_law_here", "_law_found", "_law_lap", "_law_turn", "_law_who", "_law_met_here"]
theorem sc_law_lots : FnScope n_law_lots ["_law_here"] (defScope s_law_lots) := ⟨rfl, rfl, rfl, by decide +kernel, rfl, by decide +kernel, by decide +kernel⟩
theorem ok_law_lots {f : Addr} {fd : FuncData} (F : Fun K "_law_lots" "_law_lots" s_law_lots f fd) (B : Bi mg) {f_law_rings : Addr} {e_law_rings : FuncData} (c_law_rings : Cal P w K mg base "_law_rings" 3 ["_law_here"] (spD 1 p_law_rings) f_law_rings e_law_rings) {f_law_met : Addr} {e_law_met : FuncData} (c_law_met : Cal P w K mg base "_law_met" 1 ["_law_here", "_law_who"] (spD 2 p_law_met) f_law_met e_law_met)   : FnOk P w K mg base CX0 4 f fd ["_law_here"] (spD 1 p_law_lots) := by
  refine okD (k := 3) F sc_law_lots rfl (fun cdv A outer s H E hr => ?_) m_law_lots
  exact ⟨_, (pss_cons (ps_set (i := 1) sc_law_lots.nd rfl (by first | exact Or.inl rfl | exact Or.inr rfl) pe_int)
      (pss_cons (ps_for PassesOwn.never rfl (seqK (K := K) rfl (pe_call c_law_rings.ok (hr.mono (by decide)) (by rfl) c_law_rings.g c_law_rings.kp c_law_rings.bd .nil pass0 (pa_cons (pv 0) pa_nil))) (pg_name (i := 2) sc_law_lots.nd rfl (by first | exact Or.inl rfl | exact Or.inr rfl)) (pss_one (ps_for PassesOwn.never rfl (pi_range1 (by rfl) B.range (pa_cons (pe_op op_sub (pe_callB (lenK (K := K) rfl) (by rfl) B.len (by decide +kernel) (pa_cons (pv 2) pa_nil)) pe_int) pa_nil)) (pg_name (i := 3) sc_law_lots.nd rfl (by first | exact Or.inl rfl | exact Or.inr rfl)) (pss_one (ps_set (i := 1) sc_law_lots.nd rfl (by first | exact Or.inl rfl | exact Or.inr rfl) (pe_op op_mulA (pv 1) (pe_op (addK (K := K) rfl) (pe_callB (lenK (K := K) rfl) (by rfl) B.len (by decide +kernel) (pa_cons (pv 2) pa_nil)) pe_int)))))))
      (pss_cons (ps_for PassesOwn.never rfl (pi_range1 (by rfl) B.range (pa_cons (pe_callB (lenK (K := K) rfl) (by rfl) B.len (by decide +kernel) (pa_cons (pv 0) pa_nil)) pa_nil)) (pg_name (i := 4) sc_law_lots.nd rfl (by first | exact Or.inl rfl | exact Or.inr rfl)) (pss_cons (ps_set (i := 5) sc_law_lots.nd rfl (by first | exact Or.inl rfl | exact Or.inr rfl) (pe_call c_law_met.ok (hr.mono (by decide)) (by rfl) c_law_met.g c_law_met.kp c_law_met.bd .nil pass0 (pa_cons (pv 0) (pa_cons (pv 4) pa_nil))))
      (pss_one (ps_set (i := 1) sc_law_lots.nd rfl (by first | exact Or.inl rfl | exact Or.inr rfl) (pe_op op_mulA (pv 1) (pe_ifExp (pt_cmpR (inK (K := K) rfl (hu65 hr)) (pv 4) (pv 5) (by rfl)) pe_int (pe_callB (lenK (K := K) rfl) (by rfl) B.len (by decide +kernel) (pa_cons (pv 5) pa_nil))))))))
      (pss_one (ps_ret (pv 1)))))),
    (ss_seq (ss_set false se_int)
      (ss_seq (ss_for (si_seq (se_call mon_law_rings (sa_cons se_var sa_nil))) sg_name (ss_for (si_rng1 (sa_cons (se_op r2_I (se_cb rc_len (sa_cons se_var sa_nil)) se_int) sa_nil)) sg_name (ss_set false (se_op r2_mul se_var (se_op r2_add (se_cb rc_len (sa_cons se_var sa_nil)) se_int)))))
      (ss_seq (ss_for (si_rng1 (sa_cons (se_cb rc_len (sa_cons se_var sa_nil)) sa_nil)) sg_name (ss_seq (ss_set false (se_call mon_law_met (sa_cons se_var (sa_cons se_var sa_nil))))
      (ss_set false (se_op r2_mul se_var (se_if (st_test (se_op r2_in se_var se_var)) se_int (se_cb rc_len (sa_cons se_var sa_nil)))))))
      (ss_ret se_var))))⟩
/-! ### _law_right -/
abbrev s_law_right : Stmt := topS 32
abbrev n_law_right : List Str := ["_law_box_here", "_law_here", "_law_kept", "_law_due"]
theorem sc_law_right : FnScope n_law_right ["_law_box_here"] (defScope s_law_right) := ⟨rfl, rfl, rfl, by decide +kernel, rfl, by decide +kernel, by decide +kernel⟩
theorem ok_law_right {f : Addr} {fd : FuncData} (F : Fun K "_law_right" "_law_right" s_law_right f fd) (B : Bi mg) {f_law_drawn : Addr} {e_law_drawn : FuncData} (c_law_drawn : Cal P w K mg base "_law_drawn" 5 ["_law_box_here", "_law_most"] (spD 2 p_law_drawn) f_law_drawn e_law_drawn) {f_law_lots : Addr} {e_law_lots : FuncData} (c_law_lots : Cal P w K mg base "_law_lots" 4 ["_law_here"] (spD 1 p_law_lots) f_law_lots e_law_lots) {f_law_code : Addr} {e_law_code : FuncData} (c_law_code : Cal P w K mg base "_law_code" 2 ["_law_there"] (spD 1 p_law_code) f_law_code e_law_code) {f_law_same : Addr} {e_law_same : FuncData} (c_law_same : Cal P w K mg base "_law_same" 4 ["_law_found", "_law_due"] (spD 2 (p_law_same_2 3)) f_law_same e_law_same) {f_futures_many : Addr} {e_futures_many : FuncData} (c_futures_many : Cal P w K mg base "futures_many" 4 ["state"] (spD 1 p_futures_many) f_futures_many e_futures_many) {f_code_of : Addr} {e_code_of : FuncData} (c_code_of : Cal P w K mg base "code_of" 3 ["state"] (spD 1 p_code_of) f_code_of e_code_of)  (kb_futures_many : KbR e_futures_many ["state"]) (kb_code_of : KbR e_code_of ["state"]) : FnG P w K mg base 6 f fd ["_law_box_here"] (spD 1 p_k20_law_right) := by
  refine okDG (k := 5) F sc_law_right rfl (fun cdv A outer s H E gA hr => ?_) m_k20_law_right
  exact ⟨_, (pss_cons (ps_set (i := 1) sc_law_right.nd rfl (by first | exact Or.inl rfl | exact Or.inr rfl) (pe_call c_law_drawn.ok (hr.mono (by decide)) (by rfl) c_law_drawn.g c_law_drawn.kp c_law_drawn.bd .nil pass0 (pa_cons (pv 0) (pa_cons pe_int pa_nil))))
      (pss_cons (ps_par (i := 2) (j := 3) (by rfl) sc_law_right.nd rfl rfl (by decide) rfl rfl (pa_cons (pe_callB (reprK (K := K) rfl gA (hu101 hr)) (by rfl) B.repr (by decide +kernel) (pa_cons (pv 1) pa_nil)) (pa_cons (pe_lst (pa_cons (pe_call c_law_code.ok (hr.mono (by decide)) (by rfl) c_law_code.g c_law_code.kp c_law_code.bd .nil pass0 (pa_cons (pv 1) pa_nil)) (pa_cons (pe_call c_law_lots.ok (hr.mono (by decide)) (by rfl) c_law_lots.g c_law_lots.kp c_law_lots.bd .nil pass0 (pa_cons (pv 1) pa_nil)) pa_nil))) pa_nil)) (by rfl))
      (pss_cons (ps_if (pt_not (pt_truth (pe_call c_law_same.ok (hr.mono (by decide)) (by rfl) c_law_same.g c_law_same.kp c_law_same.bd .nil pass0 (pa_cons (pe_lst (pa_cons (pe_call c_code_of.ok (hr.mono (by decide)) (by rfl) c_code_of.g c_code_of.kp c_code_of.bd .nil pass0 (pa_cons (pv 1) pa_nil)) (pa_cons (pe_call c_futures_many.ok (hr.mono (by decide)) (by rfl) c_futures_many.g c_futures_many.kp c_futures_many.bd .nil pass0 (pa_cons (pv 1) pa_nil)) pa_nil))) (pa_cons (pv 3) pa_nil))) (by intro _; rfl))) (pss_one (ps_ret pe_bl)) pss_nil)
      (pss_one (ps_ret (pe_and (pe_call c_law_same.ok (hr.mono (by decide)) (by rfl) c_law_same.g c_law_same.kp c_law_same.bd .nil pass0 (pa_cons (pe_lst (pa_cons (pe_callR c_code_of.ok (hr.mono (by decide)) (by rfl) c_code_of.g c_code_of.kp kb_code_of pass0 (pk_cons (pe_callTy (listK (K := K) rfl) (by rfl) B.list (by decide +kernel) (pa_cons (pv 1) pa_nil)) pk_nil)) (pa_cons (pe_callR c_futures_many.ok (hr.mono (by decide)) (by rfl) c_futures_many.g c_futures_many.kp kb_futures_many pass0 (pk_cons (pe_callTy (listK (K := K) rfl) (by rfl) B.list (by decide +kernel) (pa_cons (pv 1) pa_nil)) pk_nil)) pa_nil))) (pa_cons (pv 3) pa_nil))) (pe_one (pe_cmpR (eqK (K := K) rfl hr.units) (pe_callB (reprK (K := K) rfl gA (hu101 hr)) (by rfl) B.repr (by decide +kernel) (pa_cons (pv 1) pa_nil)) (pv 2) (nomark _))))))))),
    (ss_seq (ss_set false (se_call mon_law_drawn (sa_cons se_var (sa_cons se_int sa_nil))))
      (ss_seq (ss_par (se_cb rc_repr (sa_cons se_var sa_nil)) (se_lst (sa_cons (se_call mon_law_code (sa_cons se_var sa_nil)) (sa_cons (se_call mon_law_lots (sa_cons se_var sa_nil)) sa_nil))))
      (ss_seq (ss_if (st_not (st_truth (se_call (mon_law_same_2 3) (sa_cons (se_lst (sa_cons (se_call mon_code_of (sa_cons se_var sa_nil)) (sa_cons (se_call mon_futures_many (sa_cons se_var sa_nil)) sa_nil))) (sa_cons se_var sa_nil))))) (ss_ret se_bl) ss_next)
      (ss_ret (se_andV (se_call (mon_law_same_2 3) (sa_cons (se_lst (sa_cons (se_callR mon_code_of (sa_cons (se_cb rc_list (sa_cons se_var sa_nil)) sa_nil)) (sa_cons (se_callR mon_futures_many (sa_cons (se_cb rc_list (sa_cons se_var sa_nil)) sa_nil)) sa_nil))) (sa_cons se_var sa_nil))) (se_op r2_eq (se_cb rc_repr (sa_cons se_var sa_nil)) se_var))))))⟩
/-! ### law -/
abbrev s_law : Stmt := topS 33
abbrev nLaw : List Str := ["_law_script", "_law_cells_here", "_law_k", "_law_box_here", "_law_turn"]
theorem scLaw : FnScope nLaw ["_law_script"] (defScope s_law) := ⟨rfl, rfl, rfl, by decide +kernel, rfl, by decide +kernel, by decide +kernel⟩
theorem ok_law {f fC fB fR : Addr} {fd fdC fdB fdR : FuncData} (F : Fun K "law" "law" s_law f fd) (B : Bi mg) (C : Cal P w K mg base "_law_cells" 1 ["_law_script", "_law_most"] (spCells K) fC fdC)
    (X : Cal P w K mg base "_law_box" 1 ["_law_script", "_law_k"] (spBox K) fB fdB) (R : CalG P w K mg base "_law_right" 6 ["_law_box_here"] (spD 1 p_k20_law_right) fR fdR) : FnG P w K mg base 7 f fd ["_law_script"] (spLaw K) := by
  refine okG (k := 6) F scLaw (fun vs H Q E h => ?_) (fun cdv A outer s H vs Q E gA hr h => ?_)
  · obtain ⟨a, ns, rfl, _⟩ := h
    rfl
  · obtain ⟨a, ns, rfl, hS, hl, q⟩ := h
    have gX : (cxOf CX0 P w K mg base nLaw "law" (defScope s_law) f cdv A outer s H E).nox.A.guards = some [] := gA
    refine ⟨_, pss_cons (ps_set (i := 1) scLaw.nd rfl (.inl rfl) (pe_call C.ok (hr.mono (by decide)) (by rfl) C.g C.kp C.bd .nil pass0 (pa_cons (pv 0) (pa_cons pe_int pa_nil))))
      (pss_cons (ps_for PassesOwn.never rfl (pi_range1 (by rfl) B.range (pa_cons (pe_callB call_len_seq (by rfl) B.len PySem.boot_len (pa_cons (pv 1) pa_nil)) pa_nil)) (pg_name (i := 2) scLaw.nd rfl (.inl rfl))
        (pss_cons (ps_set (i := 3) scLaw.nd rfl (.inr rfl) (pe_call X.ok (hr.mono (by decide)) (by rfl) X.g X.kp X.bd .nil pass0 (pa_cons (pv 1) (pa_cons (pv 2) pa_nil))))
        (pss_one (ps_if (pt_not (pt_val (pe_callB (cr_all rfl) (by rfl) B.all (by decide +kernel) (pa_cons (pe_lc (own := [("_law_turn", 4)]) (g := gName 4) (tt := tYes) (by rfl) scLaw.nd (pi_range1 (by rfl) B.range (pa_cons pe_int pa_nil)) (blkOk_by (own := [("_law_turn", 4)]) (N := nLaw) (sc := defScope s_law) (by decide +kernel))
          (fun _ _ _ _ _ => pg_name (i := 4) scLaw.nd rfl (Or.inl rfl)) (fun _ _ _ _ _ => pts_nil) (fun _ _ _ _ _ => pe_callG R.ok gX hr (by rfl) R.g R.kp R.bd (pa_cons (pv 3) pa_nil))) pa_nil)))) pss_never pss_nil))))
      (pss_one (ps_ret pe_bl))), ?_⟩
    refine ⟨.ref a, rfl, a, _, ns, rfl, hS, by decide, by decide, fun H1 cA ms s1 nc hc l1 l2 => ?_⟩
    refine ⟨.ref cA, rfl, cA, _, rfl, .inl (SqL.of hc), _, rfl, ?_, ?_, ?_⟩
    · rw [List.length_map]; omega
    · rw [List.length_map]; omega
    refine for_it (walk_range (lo := 0)) (fun _ σ H3 => ∃ y2 y3, σ = [some (.ref a), some (.ref cA), y2, y3, none] ∧ H3 cA = some (.lst (IL ms))) ?_ ?_ ?_ ?_
    · exact ⟨none, none, rfl, hc⟩
    · intros; trivial
    · rintro i x σ H0 G hi ⟨y2, y3, rfl, hcG⟩ ⟨rfl, rfl⟩
      rw [List.length_map] at hi
      refine ⟨.ref cA, rfl, .int (0 + i), rfl, cA, _, ms, rfl, SqL.of hcG, by omega, by omega, fun H4 b s4 nb hB => ?_⟩
      have hc4 := s4 _ _ hcG
      have cb : cA ≠ b := ne_of_none hcG nb
      refine ⟨_, rfl, by decide, by decide, fun D nD => ?_⟩
      have bD : b ≠ D := hB.ne nD
      have cD : cA ≠ D := ne_of_none hc4 nD
      refine lc_range (lo := 0) (fun j H5 => H5 D = some (.lst (List.replicate j (.bl true))) ∧ Box H5 b (1000000 * j) ∧ H5 cA = some (.lst (IL ms))) ⟨upd_same, (hB.new nD).le (by omega), upd_keep hc4 nD⟩ ?_ ?_
      · rintro j H5 hj ⟨hD, hB5, hc5⟩
        have hj' : j < 3 := hj
        refine ⟨rfl, yes_ok ⟨.ref b, rfl, right_do2 (E := fun _ _ _ => False) (N := 1000000) hB5 (fun Q hQ => ⟨rfl, by omega, hQ⟩) fun H6 sb6 hB6 => ?_⟩⟩
        have hD6 := sb6 D _ (Ne.symm bD) hD
        refine ⟨_, hD6, ?_, ?_, ?_, ?_⟩
        · rw [List.length_replicate]; exact szl (by omega)
        · rw [upd_same, rep_app]
        · exact (hB6.put bD).le (by omega)
        · rw [upd_ne cD]; exact sb6 cA _ cb hc5
      · rintro H5 ⟨hD, hB5, hc5⟩
        refine ⟨D, List.replicate 3 true, rfl, ?_, true, ?_, iteF ⟨_, _, rfl, hc5⟩⟩
        · rw [rep_bl]; exact SqL.of hD
        · rw [rep_all]
    · rintro σ H3 ⟨y2, y3, rfl, _⟩
      exact q _

end
theorem all_mk {l : PySem.W.OpenLaw} {w : World} {K : PySem.W.Frag} {h : Heap} {mg : Str → Option Value} {fa : Addr} (X : K.In h) (G : h.Ns mainGlobals mg) (hfa : mg "law" = some (.ref fa)) (Z : Zs K)
    (d3 : Dx K "product" s_product) (d5 : Dx K "check_person" s_check_person) (d6 : Dx K "route_from" s_route_from) (d7 : Dx K "turned" s_turned) (d8 : Dx K "ring_begin" s_ring_begin) (d9 : Dx K "way" s_way) (d10 : Dx K "ring_of" s_ring_of) (d11 : Dx K "rings" s_rings) (d12 : Dx K "height" s_height) (d15 : Dx K "code_of" s_code_of) (d16 : Dx K "futures_many" s_futures_many) (d18 : Dx K "_law_box" sBox) (d19 : Dx K "_law_take" sTake) (d20 : Dx K "_law_cells" sCells) (d21 : Dx K "_law_of" s_law_of) (d22 : Dx K "_law_strewn" s_law_strewn) (d23 : Dx K "_law_same" s_law_same) (d24 : Dx K "_law_part" s_law_part) (d25 : Dx K "_law_mixed" s_law_mixed) (d26 : Dx K "_law_drawn" s_law_drawn) (d27 : Dx K "_law_met" s_law_met) (d28 : Dx K "_law_ring" s_law_ring) (d29 : Dx K "_law_rings" s_law_rings) (d30 : Dx K "_law_code" s_law_code) (d31 : Dx K "_law_lots" s_law_lots) (d32 : Dx K "_law_right" s_law_right) (d33 : Dx K "law" s_law) (x_ON_RING : ∃ t : Tok, PySem.W.nsIn K mainGlobals "ON_RING" = some (some (.int (-1) t))) :
    ∃ fd : FuncData, (∀ (s : Shared) (v : Value), BindsTo s fd ⟨[v], []⟩ [("_law_script", v)]) ∧ ∀ base : Heap, K.In base → base.Ns mainGlobals mg → FnG l.prog w K mg base 7 fa fd ["_law_script"] (spLaw K) := by
  have B := Z.bi X G
  obtain ⟨k_ON_RING, z_ON_RING⟩ := x_ON_RING
  have g_ON_RING := PySem.W.mg_of X G z_ON_RING
  obtain ⟨f3, e3, F3, g3⟩ := d3.fn X G
  obtain ⟨f5, e5, F5, g5⟩ := d5.fn X G
  obtain ⟨f6, e6, F6, g6⟩ := d6.fn X G
  obtain ⟨f7, e7, F7, g7⟩ := d7.fn X G
  obtain ⟨f8, e8, F8, g8⟩ := d8.fn X G
  obtain ⟨f9, e9, F9, g9⟩ := d9.fn X G
  obtain ⟨f10, e10, F10, g10⟩ := d10.fn X G
  obtain ⟨f11, e11, F11, g11⟩ := d11.fn X G
  obtain ⟨f12, e12, F12, g12⟩ := d12.fn X G
  obtain ⟨f15, e15, F15, g15⟩ := d15.fn X G
  obtain ⟨f16, e16, F16, g16⟩ := d16.fn X G
  obtain ⟨f18, e18, F18, g18⟩ := d18.fn X G
  obtain ⟨f19, e19, F19, g19⟩ := d19.fn X G
  obtain ⟨f20, e20, F20, g20⟩ := d20.fn X G
  obtain ⟨f21, e21, F21, g21⟩ := d21.fn X G
  obtain ⟨f22, e22, F22, g22⟩ := d22.fn X G
  obtain ⟨f23, e23, F23, g23⟩ := d23.fn X G
  obtain ⟨f24, e24, F24, g24⟩ := d24.fn X G
  obtain ⟨f25, e25, F25, g25⟩ := d25.fn X G
  obtain ⟨f26, e26, F26, g26⟩ := d26.fn X G
  obtain ⟨f27, e27, F27, g27⟩ := d27.fn X G
  obtain ⟨f28, e28, F28, g28⟩ := d28.fn X G
  obtain ⟨f29, e29, F29, g29⟩ := d29.fn X G
  obtain ⟨f30, e30, F30, g30⟩ := d30.fn X G
  obtain ⟨f31, e31, F31, g31⟩ := d31.fn X G
  obtain ⟨f32, e32, F32, g32⟩ := d32.fn X G
  obtain ⟨f33, e33, F33, g33⟩ := d33.fn X G
  cases hfa.symm.trans g33
  refine ⟨e33, fun s v => ?_, fun base _ _ => ?_⟩
  · obtain ⟨oc, od, kV, doc, pm, an, cdv, ct, osl, rfl, lk, hcd⟩ := F33.ex
    exact .of_eq rfl
  · have bd19 : Binds K e19 ["_law_box_here", "_law_span"] [] := b2 F19 fun _ _ _ _ _ _ _ _ => rfl
    have u19 : Cal l.prog w K mg base "_law_take" 1 ["_law_box_here", "_law_span"] spTake f19 e19 := ⟨ok_take F19, g19, F19.kp, bd19⟩
    have t19 : Cal l.prog w K mg base "_law_take" 2 ["_law_box_here", "_law_span"] (spD 2 p_law_take) f19 e19 := ⟨FnOk.imp (ok_takeW F19 u19) fun _ _ _ _ h => take_imp h, g19, F19.kp, bd19⟩
    have bd18 : Binds K e18 ["_law_script", "_law_k"] [] := b2 F18 fun _ _ _ _ _ _ _ _ => rfl
    have t18 : Cal l.prog w K mg base "_law_box" 1 ["_law_script", "_law_k"] (spBox K) f18 e18 := ⟨ok_box F18 B, g18, F18.kp, bd18⟩
    have bd3 : Binds K e3 ["factors"] [] := b1 F3 fun _ _ _ _ _ _ _ => rfl
    have t3 : Cal l.prog w K mg base "product" 1 ["factors"] (spD 1 p_product) f3 e3 := ⟨ok_product F3 B   , g3, F3.kp, bd3⟩
    have bd5 : Binds K e5 ["state", "person"] [] := b2 F5 fun _ _ _ _ _ _ _ _ => rfl
    have t5 : Cal l.prog w K mg base "check_person" 1 ["state", "person"] (spD 2 p_check_person) f5 e5 := ⟨ok_check_person F5 B   , g5, F5.kp, bd5⟩
    have bd6 : Binds K e6 ["pointers", "person"] [] := b2 F6 fun _ _ _ _ _ _ _ _ => rfl
    have t6 : Cal l.prog w K mg base "route_from" 1 ["pointers", "person"] (spD 2 p_route_from) f6 e6 := ⟨ok_route_from F6 B   , g6, F6.kp, bd6⟩
    have bd7 : Binds K e7 ["members", "first"] [] := b2 F7 fun _ _ _ _ _ _ _ _ => rfl
    have t7 : Cal l.prog w K mg base "turned" 1 ["members", "first"] (spD 2 p_turned) f7 e7 := ⟨ok_turned F7 B   , g7, F7.kp, bd7⟩
    have bd8 : Binds K e8 ["state", "route"] [] := b2 F8 fun _ _ _ _ _ _ _ _ => rfl
    have t8 : Cal l.prog w K mg base "ring_begin" 1 ["state", "route"] (spD 2 p_ring_begin) f8 e8 := ⟨ok_ring_begin F8 B   , g8, F8.kp, bd8⟩
    have bd9 : Binds K e9 ["state", "person"] [] := b2 F9 fun _ _ _ _ _ _ _ _ => rfl
    have t9 : Cal l.prog w K mg base "way" 2 ["state", "person"] (spD 2 p_way) f9 e9 := ⟨ok_way F9 B t5 t6  , g9, F9.kp, bd9⟩
    have bd10 : Binds K e10 ["state", "person"] [] := b2 F10 fun _ _ _ _ _ _ _ _ => rfl
    have t10 : Cal l.prog w K mg base "ring_of" 2 ["state", "person"] (spD 2 p_ring_of) f10 e10 := ⟨ok_ring_of F10 B t5 t6 t8 t7  , g10, F10.kp, bd10⟩
    have bd11 : Binds K e11 ["state"] [] := b1 F11 fun _ _ _ _ _ _ _ => rfl
    have t11 : Cal l.prog w K mg base "rings" 3 ["state"] (spD 1 p_rings) f11 e11 := ⟨ok_rings F11 B t10  , g11, F11.kp, bd11⟩
    have bd12 : Binds K e12 ["state", "person"] [] := b2 F12 fun _ _ _ _ _ _ _ _ => rfl
    have t12 : Cal l.prog w K mg base "height" 2 ["state", "person"] (spD 2 p_height) f12 e12 := ⟨ok_height F12 B t5 t8 t6  , g12, F12.kp, bd12⟩
    have bd15 : Binds K e15 ["state"] [] := b1 F15 fun _ _ _ _ _ _ _ => rfl
    have t15 : Cal l.prog w K mg base "code_of" 3 ["state"] (spD 1 p_code_of) f15 e15 := ⟨ok_code_of F15 B t12 g_ON_RING , g15, F15.kp, bd15⟩
    have bd16 : Binds K e16 ["state"] [] := b1 F16 fun _ _ _ _ _ _ _ => rfl
    have t16 : Cal l.prog w K mg base "futures_many" 4 ["state"] (spD 1 p_futures_many) f16 e16 := ⟨ok_futures_many F16 B t12 t9 t11 t3  , g16, F16.kp, bd16⟩
    have bd21 : Binds K e21 ["_law_box_here", "_law_some"] [] := b2 F21 fun _ _ _ _ _ _ _ _ => rfl
    have t21 : Cal l.prog w K mg base "_law_of" 3 ["_law_box_here", "_law_some"] (spD 2 p_law_pick) f21 e21 := ⟨ok_law_of F21 B t19  , g21, F21.kp, bd21⟩
    have bd22 : Binds K e22 ["_law_box_here", "_law_some"] [] := b2 F22 fun _ _ _ _ _ _ _ _ => rfl
    have t22 : Cal l.prog w K mg base "_law_strewn" 3 ["_law_box_here", "_law_some"] (spD 2 p_law_strewn_2) f22 e22 := ⟨ok_law_strewn F22 B t19  , g22, F22.kp, bd22⟩
    have bd23 : Binds K e23 ["_law_found", "_law_due"] [] := b2 F23 fun _ _ _ _ _ _ _ _ => rfl
    have t23 : Cal l.prog w K mg base "_law_same" 4 ["_law_found", "_law_due"] (spD 2 (p_law_same_2 3)) f23 e23 := ⟨ok_law_same F23 B g23 bd23 3, g23, F23.kp, bd23⟩
    have bd24 : Binds K e24 ["_law_box_here", "_law_size"] [] := b2 F24 fun _ _ _ _ _ _ _ _ => rfl
    have t24 : Cal l.prog w K mg base "_law_part" 3 ["_law_box_here", "_law_size"] (spD 2 p_law_part) f24 e24 := ⟨ok_law_part F24 B t19  , g24, F24.kp, bd24⟩
    have bd25 : Binds K e25 ["_law_box_here", "_law_found"] [] := b2 F25 fun _ _ _ _ _ _ _ _ => rfl
    have t25 : Cal l.prog w K mg base "_law_mixed" 4 ["_law_box_here", "_law_found"] (spD 2 p_law_mixed) f25 e25 := ⟨ok_law_mixed F25 B t22  , g25, F25.kp, bd25⟩
    have bd26 : Binds K e26 ["_law_box_here", "_law_most"] [] := b2 F26 fun _ _ _ _ _ _ _ _ => rfl
    have t26 : Cal l.prog w K mg base "_law_drawn" 5 ["_law_box_here", "_law_most"] (spD 2 p_law_drawn) f26 e26 := ⟨ok_law_drawn F26 B t19 t24 t21 t25  , g26, F26.kp, bd26⟩
    have bd27 : Binds K e27 ["_law_here", "_law_who"] [] := b2 F27 fun _ _ _ _ _ _ _ _ => rfl
    have t27 : Cal l.prog w K mg base "_law_met" 1 ["_law_here", "_law_who"] (spD 2 p_law_met) f27 e27 := ⟨ok_law_met F27 B   , g27, F27.kp, bd27⟩
    have bd28 : Binds K e28 ["_law_here", "_law_who"] [] := b2 F28 fun _ _ _ _ _ _ _ _ => rfl
    have t28 : Cal l.prog w K mg base "_law_ring" 2 ["_law_here", "_law_who"] (spD 2 p_law_ring) f28 e28 := ⟨ok_law_ring F28 B t27  , g28, F28.kp, bd28⟩
    have bd29 : Binds K e29 ["_law_here"] [] := b1 F29 fun _ _ _ _ _ _ _ => rfl
    have t29 : Cal l.prog w K mg base "_law_rings" 3 ["_law_here"] (spD 1 p_law_rings) f29 e29 := ⟨ok_law_rings F29 B t28  , g29, F29.kp, bd29⟩
    have bd30 : Binds K e30 ["_law_there"] [] := b1 F30 fun _ _ _ _ _ _ _ => rfl
    have t30 : Cal l.prog w K mg base "_law_code" 2 ["_law_there"] (spD 1 p_law_code) f30 e30 := ⟨ok_law_code F30 B t27  , g30, F30.kp, bd30⟩
    have bd31 : Binds K e31 ["_law_here"] [] := b1 F31 fun _ _ _ _ _ _ _ => rfl
    have t31 : Cal l.prog w K mg base "_law_lots" 4 ["_law_here"] (spD 1 p_law_lots) f31 e31 := ⟨ok_law_lots F31 B t29 t27  , g31, F31.kp, bd31⟩
    have bd32 : Binds K e32 ["_law_box_here"] [] := b1 F32 fun _ _ _ _ _ _ _ => rfl
    have t32 : CalG l.prog w K mg base "_law_right" 6 ["_law_box_here"] (spD 1 p_k20_law_right) f32 e32 := ⟨ok_law_right F32 B t26 t31 t30 t23 t16 t15  (r1 F16 fun _ _ _ _ _ _ _ => rfl) (r1 F15 fun _ _ _ _ _ _ _ => rfl), g32, F32.kp, bd32⟩
    have bd20 : Binds K e20 ["_law_script", "_law_most"] [] := b2 F20 fun _ _ _ _ _ _ _ _ => rfl
    have t20 : Cal l.prog w K mg base "_law_cells" 1 ["_law_script", "_law_most"] (spCells K) f20 e20 := ⟨ok_cells F20 B, g20, F20.kp, bd20⟩
    exact ok_law F33 B t20 t18 t32
end Lp

open PySem PySem.W PyProof.Rows
set_option maxHeartbeats 0 in
theorem PySem.Challenge.cw_lookpast_k20_codes_and_their_number_holds : PySem.Challenge.rw_lookpast_k20_codes_and_their_number.Holds := by
  w_on; o_law; k_head; (case hw => w_witness2)
  k_fill
  refine Lp.walk_ofG (l := PySem.Challenge.rw_lookpast_k20_codes_and_their_number) (n := 63) (k := 7) (x := "_law_script") (sp := fun w => Lp.spLaw _) rfl (by decide) rfl ⟨rfl, by decide, by decide⟩ (fun w h Y => PySem.W.kIn_of Y) ?F (fun _ _ a ns hl hS => ⟨a, ns, rfl, hS, hl, fun _ => rfl⟩)
  case F =>
    intro w mg fa h KX G hmg
    refine' Lp.all_mk KX G hmg ?z ?d3 ?d5 ?d6 ?d7 ?d8 ?d9 ?d10 ?d11 ?d12 ?d15 ?d16 ?d18 ?d19 ?d20 ?d21 ?d22 ?d23 ?d24 ?d25 ?d26 ?d27 ?d28 ?d29 ?d30 ?d31 ?d32 ?d33 ?xON_RING
    (case z => refine' ⟨?_, ?_, ?_, ?_, ?_, ?_, ?_, ?_, ?_, ?_, ?_, ?_, ?_, ?_, ?_, ?_, ?_, ?_⟩ <;> k_is)
    (case d3 => refine' Lp.dx_mk ?a ?l ?c ?k; (case a => k_is); (case l => k_is); (case c => k_is); (case k => k_is))
    (case d5 => refine' Lp.dx_mk ?a ?l ?c ?k; (case a => k_is); (case l => k_is); (case c => k_is); (case k => k_is))
    (case d6 => refine' Lp.dx_mk ?a ?l ?c ?k; (case a => k_is); (case l => k_is); (case c => k_is); (case k => k_is))
    (case d7 => refine' Lp.dx_mk ?a ?l ?c ?k; (case a => k_is); (case l => k_is); (case c => k_is); (case k => k_is))
    (case d8 => refine' Lp.dx_mk ?a ?l ?c ?k; (case a => k_is); (case l => k_is); (case c => k_is); (case k => k_is))
    (case d9 => refine' Lp.dx_mk ?a ?l ?c ?k; (case a => k_is); (case l => k_is); (case c => k_is); (case k => k_is))
    (case d10 => refine' Lp.dx_mk ?a ?l ?c ?k; (case a => k_is); (case l => k_is); (case c => k_is); (case k => k_is))
    (case d11 => refine' Lp.dx_mk ?a ?l ?c ?k; (case a => k_is); (case l => k_is); (case c => k_is); (case k => k_is))
    (case d12 => refine' Lp.dx_mk ?a ?l ?c ?k; (case a => k_is); (case l => k_is); (case c => k_is); (case k => k_is))
    (case d15 => refine' Lp.dx_mk ?a ?l ?c ?k; (case a => k_is); (case l => k_is); (case c => k_is); (case k => k_is))
    (case d16 => refine' Lp.dx_mk ?a ?l ?c ?k; (case a => k_is); (case l => k_is); (case c => k_is); (case k => k_is))
    (case d18 => refine' Lp.dx_mk ?a ?l ?c ?k; (case a => k_is); (case l => k_is); (case c => k_is); (case k => k_is))
    (case d19 => refine' Lp.dx_mk ?a ?l ?c ?k; (case a => k_is); (case l => k_is); (case c => k_is); (case k => k_is))
    (case d20 => refine' Lp.dx_mk ?a ?l ?c ?k; (case a => k_is); (case l => k_is); (case c => k_is); (case k => k_is))
    (case d21 => refine' Lp.dx_mk ?a ?l ?c ?k; (case a => k_is); (case l => k_is); (case c => k_is); (case k => k_is))
    (case d22 => refine' Lp.dx_mk ?a ?l ?c ?k; (case a => k_is); (case l => k_is); (case c => k_is); (case k => k_is))
    (case d23 => refine' Lp.dx_mk ?a ?l ?c ?k; (case a => k_is); (case l => k_is); (case c => k_is); (case k => k_is))
    (case d24 => refine' Lp.dx_mk ?a ?l ?c ?k; (case a => k_is); (case l => k_is); (case c => k_is); (case k => k_is))
    (case d25 => refine' Lp.dx_mk ?a ?l ?c ?k; (case a => k_is); (case l => k_is); (case c => k_is); (case k => k_is))
    (case d26 => refine' Lp.dx_mk ?a ?l ?c ?k; (case a => k_is); (case l => k_is); (case c => k_is); (case k => k_is))
    (case d27 => refine' Lp.dx_mk ?a ?l ?c ?k; (case a => k_is); (case l => k_is); (case c => k_is); (case k => k_is))
    (case d28 => refine' Lp.dx_mk ?a ?l ?c ?k; (case a => k_is); (case l => k_is); (case c => k_is); (case k => k_is))
    (case d29 => refine' Lp.dx_mk ?a ?l ?c ?k; (case a => k_is); (case l => k_is); (case c => k_is); (case k => k_is))
    (case d30 => refine' Lp.dx_mk ?a ?l ?c ?k; (case a => k_is); (case l => k_is); (case c => k_is); (case k => k_is))
    (case d31 => refine' Lp.dx_mk ?a ?l ?c ?k; (case a => k_is); (case l => k_is); (case c => k_is); (case k => k_is))
    (case d32 => refine' Lp.dx_mk ?a ?l ?c ?k; (case a => k_is); (case l => k_is); (case c => k_is); (case k => k_is))
    (case d33 => refine' Lp.dx_mk ?a ?l ?c ?k; (case a => k_is); (case l => k_is); (case c => k_is); (case k => k_is))
    (case xON_RING => exact ⟨_, by k_is⟩)

