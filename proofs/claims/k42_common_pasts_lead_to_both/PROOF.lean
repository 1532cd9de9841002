import PyProof.Rows.All
import Wide.All
import OpenK.AllK
import Wide.FinOn
import HandS.ForMost
import HandS.Walk
import HandS.IsInst
import HandS.Conv
import HandS.Zip
import HandS.Style
import HandS.Flow
import HandS.Strs
import HandS.Wide
import HandS.TupAny
import HandS.TupSets
import KE.KDictDisplayH
import HandS.DictComp
import HandS.SetBool
import HandS.Deep
import HandS.TupMul
import HandS.SortInts
import HandS.SortOrd
import PyProof.ReprRoads
import PyProof.Rows.RegFStrParts
import KE.GoesMore
import HandS.TupLe
import HandS.SetKeys
import HandS.Codes
import HandS.SetFor
import HandS.ExcInit
import KE.KExcInit
import HandS.ExcOwn
import HandS.WordsExc
import KE.KTryMore
import KE.KExcIs
import HandS.ExcField
import HandS.ExcIs
import KE.KDictCopyH
import HandS.DictTup
import HandS.GenList
import KE.KDictZip
import HandS.CallLocal
import PySem.Challenge.RW_lookpast_k42_common_pasts_lead_to_both
set_option Elab.async false
set_option linter.all false
set_option maxRecDepth 100000
set_option maxHeartbeats 4000000
namespace Lp
open PySem PySem.Spec PyProof.Rows L2
def Sol (H : Hp) (a : Addr) (xs : List V) : Prop := ∃ o : Obj, o.dict = none ∧ H a = some (.frz o (.tup xs))
theorem Sol.seq {K : PySem.W.Frag} {H : Hp} {a : Addr} {xs : List V} (h : Sol H a xs) : SqT K H a xs := by
  obtain ⟨o, _, e⟩ := h
  exact .inl (.inr ⟨o, e⟩)
theorem Sol.to {H H' : Hp} {a : Addr} {xs : List V} (h : Sol H a xs) (s : Same H H') : Sol H' a xs := by
  obtain ⟨o, d, e⟩ := h
  exact ⟨o, d, s _ _ e⟩
theorem Sol.there {H : Hp} {a : Addr} {xs : List V} (h : Sol H a xs) : H a ≠ none := by
  obtain ⟨o, d, e⟩ := h
  rw [e]; exact fun z => nomatch z
theorem Sol.inj {H : Hp} {a : Addr} {xs ys : List V} (h : Sol H a xs) (k : Sol H a ys) : xs = ys := by
  obtain ⟨o, d, e⟩ := h
  obtain ⟨o', d', e'⟩ := k
  rw [e] at e'
  cases e'; rfl
abbrev objT (us : List Value) : Obj := { cls := .type "tuple", data := .seq us.toArray }
section
variable {X : Cx} {pins : List (Addr × Obj)} {σ : L2.St} {H : Hp} {s : Shared}
/-- a new tuple -/
theorem laidT {xs : List V} {us : List Value} (J : Inv X pins σ H s) (rel : Vals xs us) (few : xs.length ≤ sizeLine) : Inv X pins σ (upd H s.heap.objs.size (.frz (objT us) (.tup xs))) { s with heap := s.heap.push (objT us) } := by
  refine J.laid (t' := s.toks) (fun _ _ q => Heap.get?_push_of_some _ q) (Nat.le_refl _) ⟨Heap.get?_push_size _ rfl, few, us, rel, IsTup.new _ _⟩
theorem newT {xs : List V} {us : List Value} {Q : VK} (J : Inv X pins σ H s) (rel : Vals xs us) (few : xs.length ≤ sizeLine) (q : ∀ p o, H p = none → o.dict = none → Q (.ref p) (upd H p (.frz o (.tup xs)))) : EP X pins σ Q (.ref s.heap.objs.size) { s with heap := s.heap.push (objT us) } :=
  ⟨.ref s.heap.objs.size, _, laidT J rel few, rfl, q _ _ (J.hok.fresh (Nat.le_refl _)) rfl⟩
end
section
variable {X : Cx}
/-- (a, b, ..) -/
def tTupS (t : TA) : TE := fun σ H Q => t σ H fun xs H1 => xs.length ≤ sizeLine ∧ ∀ p o, H1 p = none → o.dict = none → Q (.ref p) (upd H1 p (.frz o (.tup xs)))
theorem pe_tupS {es : List Expr} {t : TA} {k : Nat} {pos : Pos} (args : PA X es t) : PE X (.Tuple es k pos) (tTupS t) := by
  constructor
  intro pins s σ H Q J want
  refine wpAny_Tuple_spliced (thn (args.run pos pins s σ H _ J want) ?_)
  rintro us s' ⟨xs, H', J', rel, few, q⟩
  exact ⟨by rw [← rel.length]; exact few, newT J' rel few q⟩
/-- tuple(xs) -/
def rTuple (K : PySem.W.Frag) : List V → Hp → VK → Prop := fun xs H Q => ∃ p ys, xs = [.ref p] ∧ ((SqL K H p ys ∧ ∀ l o, H l = none → o.dict = none → Q (.ref l) (upd H l (.frz o (.tup ys)))) ∨ (SqT K H p ys ∧ Q (.ref p) H))
theorem call_tupleS : CallR X (.type "tuple") (rTuple X.K) := by
  rintro pins s σ H xs us Q J rel ⟨p, ys, rfl, ways⟩
  obtain ⟨u, rfl, ru⟩ := vals1 rel
  cases ru
  rcases ways with ⟨at_p, q⟩ | ⟨at_p, q⟩
  · obtain ⟨its, rv, pl, few⟩ := J.list at_p
    have many := rv.length
    refine call_tuple_list pl.isList (fun h' keep => ?_) (by simp only [List.size_toArray]; omega)
    have J' : Inv X pins σ H { s with heap := h' } := J.kept (t' := s.toks) keep
    exact newT J' rv few q
  · obtain ⟨its, rv, pl, few⟩ := J.tuple at_p
    exact call_tuple_same pl ⟨.ref p, H, J, rfl, q⟩
/-- t + u -/
def rCatS (K : PySem.W.Frag) : R2 := fun x y H Q => ∃ a b xs ys, x = .ref a ∧ y = .ref b ∧ SqT K H a xs ∧ SqT K H b ys ∧ xs.length + ys.length ≤ sizeLine ∧
  (xs = [] → Q (.ref b) H) ∧ (ys = [] → Q (.ref a) H) ∧ ∀ p o, H p = none → o.dict = none → Q (.ref p) (upd H p (.frz o (.tup (xs ++ ys))))
theorem op_catS : OpR X (binaryOp .Add) (rCatS X.K) := by
  rintro pins s σ H x y v u Q J rx ry ⟨a, b, xs, ys, rfl, rfl, at_a, at_b, few, q0, q1, q2⟩
  cases rx
  cases ry
  obtain ⟨its, r1, p1, _⟩ := J.tuple at_a
  obtain ⟨jts, r2, p2, _⟩ := J.tuple at_b
  by_cases none_ : xs = []
  · subst none_
    cases r1
    exact cat_tup0 p1 p2 ⟨.ref b, H, J, rfl, q0 rfl⟩
  · refine HT.cat_tup p1 p2 (fun z => none_ (r1.nil_iff.mp z)) (fun z => ⟨.ref a, H, J, rfl, q1 (r2.nil_iff.mp z)⟩) (fun _ => ?_) (by rw [← r1.length, ← r2.length]; exact few)
    exact newT J (r1.append r2) (by rw [List.length_append]; exact few) q2
/-- t[lo:hi] -/
def rSlS (K : PySem.W.Frag) : V → Option Int → Option Int → Hp → VK → Prop := fun x lo hi H Q => ∃ a xs, x = .ref a ∧ SqT K H a xs ∧
  (cutV xs lo hi = xs → Q (.ref a) H) ∧ ∀ p o, H p = none → o.dict = none → Q (.ref p) (upd H p (.frz o (.tup (cutV xs lo hi))))
theorem sl_tupS : SlR X (rSlS X.K) := by
  rintro pins s σ H x v vl vu lo hi sl Q J rx hs pl pu ⟨a, xs, rfl, at_a, q1, q2⟩
  by_cases whole : HT.sIx xs.length 0 lo = 0 ∧ HT.sIx xs.length xs.length hi = xs.length
  · refine sl_tupA pins s σ H _ v vl vu lo hi sl Q J rx hs pl pu ⟨a, xs, rfl, at_a, fun _ => q1 ?_, fun z => absurd whole z⟩
    unfold cutV
    rw [whole.1, whole.2, List.drop_zero, Nat.sub_zero, List.take_length]
  · cases rx
    obtain ⟨its, rv, pt, few⟩ := J.tuple at_a
    have many : its.toArray.size = xs.length := by rw [List.size_toArray]; exact rv.length.symm
    refine ⟨"tuple", _, PyProof.Rows.slot_tuple_getitem.lookup, pt.typeIs, ?_⟩
    refine HT.getItem_tuple_cut pt hs pl pu (by rw [many]; exact whole) ?_ (by rw [many]; exact few)
    rw [many]
    exact newT J ((rv.drop (HT.sIx xs.length 0 lo)).take (HT.sIx xs.length xs.length hi - HT.sIx xs.length 0 lo)) (Nat.le_trans (cutV_length xs lo hi) few) q2
end
end Lp

namespace Lp
open PySem PySem.Spec PyProof.Rows L2
/-- a row of a dict: its key, the key's address, its value, the value as data -/
structure DRow where
  k : List Int
  b : Addr
  v : V
  d : PyData
abbrev tHash (k : List Int) : Int := reduceHash (Builtin.Tuple.tupleHashOf (k.map hashInt))
def dEnt (y : List Int × Addr × Value) : DictEntry := ⟨tHash y.1, .ref y.2.1, y.2.2⟩
def DRel (x : DRow) (y : List Int × Addr × Value) : Prop := x.k = y.1 ∧ x.b = y.2.1 ∧ RelV x.v y.2.2
def DT0 (h : Heap) (a : Addr) (xs : List DRow) : Prop := xs.length ≤ sizeLine ∧ (a == sysModules) = false ∧ (xs.map DRow.k).Nodup ∧ ∃ ys, Paired DRel xs ys ∧ ∃ o es ep, h.get? a = some o ∧ o.ExactDict ∧ o.data = .dict es ep ∧ es.toList = ys.map dEnt
/-- ob is the dict itself -/
def DctO (ob : Obj) (a : Addr) (xs : List DRow) : HO := .ext fun h => h.get? a = some ob ∧ DT0 h a xs
/-- there is such a dict at a -/
def IsDct (H : Hp) (a : Addr) (xs : List DRow) : Prop := ∃ ob, H a = some (DctO ob a xs)
theorem IsDct.ne {H : Hp} {a : Addr} {xs : List DRow} (x : IsDct H a xs) : H a ≠ none := by
  obtain ⟨ob, h⟩ := x
  rw [h]; exact fun z => nomatch z
theorem DRel.keys : ∀ {xs : List DRow} {ys : List (List Int × Addr × Value)}, Paired DRel xs ys → xs.map DRow.k = ys.map (·.1)
  | _, _, .nil => rfl
  | _, _, .cons r t => by rw [List.map_cons, List.map_cons, r.1, DRel.keys t]
theorem DRel.mem : ∀ {xs : List DRow} {ys : List (List Int × Addr × Value)}, Paired DRel xs ys → ∀ y ∈ ys, ∃ x ∈ xs, DRel x y
  | _, _, .nil, y, h => nomatch h
  | _, _, .cons (a := x) r t, y, h => by
    rcases List.mem_cons.mp h with e | e
    · exact ⟨x, List.mem_cons_self, e ▸ r⟩
    · obtain ⟨z, hz, q⟩ := DRel.mem t y e
      exact ⟨z, List.mem_cons_of_mem _ hz, q⟩
theorem DT0.full {P : Program} {w : World} {h : Heap} {a : Addr} {xs : List DRow} (R : DT0 h a xs) (hk : ∀ x ∈ xs, IsT P w h x.k x.b) : ∃ ys, Paired DRel xs ys ∧ h.DictOfH (tupleKind (intKind P w)) a ys := by
  obtain ⟨h1, h2, h3, ys, h4, o, es, ep, ho, hx, hd, he⟩ := R
  refine ⟨ys, h4, o, es, ep, ho, hx, hd, he, fun y hy => ?_, by rw [← DRel.keys h4]; exact h3⟩
  obtain ⟨x, hx, r⟩ := DRel.mem h4 y hy
  rw [← r.1, ← r.2.1]
  exact hk x hx
theorem DT0.of {P : Program} {w : World} {h : Heap} {a : Addr} {xs : List DRow} {ys : List (List Int × Addr × Value)} (dd : h.DictOfH (tupleKind (intKind P w)) a ys) (r : Paired DRel xs ys) (hl : xs.length ≤ sizeLine) (hd : (a == sysModules) = false) : DT0 h a xs := by
  obtain ⟨o, es, ep, ho, hx, hd', he, _, nd⟩ := dd
  exact ⟨hl, hd, by rw [DRel.keys r]; exact nd, ys, r, o, es, ep, ho, hx, hd', he⟩
def valD (xs : List DRow) (k : List Int) : Option DRow := xs.find? fun x => decide (x.k = k)
def putD (xs : List DRow) (x : DRow) : List DRow := if (valD xs x.k).isSome then xs.map (fun y => if y.k = x.k then { y with v := x.v, d := x.d } else y) else xs ++ [x]
/-- at a: a dict with the rows xs -/
def DAtH (K : PySem.W.Frag) (H : Hp) (a : Addr) (xs : List DRow) : Prop := IsDct H a xs ∧ ∀ x ∈ xs, SqT K H x.b (x.k.map V.int)
section
variable {X : Cx} {pins : List (Addr × Obj)} {σ : L2.St} {H : Hp} {s : Shared} {a : Addr} {xs : List DRow}
theorem DAtH.full (I : Inv X pins σ H s) (x : DAtH X.K H a xs) : xs.length ≤ sizeLine ∧ (a == sysModules) = false ∧ ∃ ys, Paired DRel xs ys ∧ s.heap.DictOfH (tupleKind (intKind X.prog X.w)) a ys := by
  obtain ⟨ob, x1⟩ := x.1
  have R0 : DT0 s.heap a xs := (I.hok a _ x1).1.2
  exact ⟨R0.1, R0.2.1, R0.full fun y hy => I.isT (x.2 y hy)⟩
end
end Lp

namespace Lp
open PySem PySem.Spec PyProof.Rows L2
section
variable {P : Program} {w : World} {A : Around} {E : Value → Shared → Prop} {s : Shared} {a : Addr} {L : List (Addr × List Int)} {es : Array (Int × Value)} {ep : Nat} {t : SetTable}
end
/-- the set at a, as the world sees it -/
def SetTI (w : World) (a : Addr) (M : List (Addr × List Int)) : HO := .ext fun h => ∃ P, SetT0 P w h a M
section
variable {X : Cx} {pins : List (Addr × Obj)} {σ : L2.St} {H : Hp} {s : Shared} {a : Addr} {M : List (Addr × List Int)}
end
section
variable {X : Cx}
end
end Lp

namespace Lp
open PySem PySem.Spec PyProof.Rows L2
/-- the drawing box: its three numbers; c: at most so many draws so far -/
def Box (H : Hp) (b : Addr) (c : Nat) : Prop := ∃ x0 x1 x2 : Int, H b = some (.lst [.int x0, .int x1, .int x2]) ∧ 0 ≤ x0 ∧ 0 ≤ x1 ∧ x1 < 4611686018427387904 ∧ 0 ≤ x2 ∧ x2 ≤ (c : Int)
theorem Box.le {H : Hp} {b : Addr} {c d : Nat} (x : Box H b c) (h : c ≤ d) : Box H b d := by
  obtain ⟨x0, x1, x2, e, h0, h1, h2, h3, h4⟩ := x
  exact ⟨x0, x1, x2, e, h0, h1, h2, h3, by omega⟩
theorem Box.there {H : Hp} {b : Addr} {c : Nat} (x : Box H b c) : H b ≠ none := by
  obtain ⟨x0, x1, x2, e, _⟩ := x
  rw [e]; exact fun h => nomatch h
theorem Box.keep {H H' : Hp} {b : Addr} {c : Nat} (x : Box H b c) (h : H' b = H b) : Box H' b c := by
  obtain ⟨x0, x1, x2, e, r⟩ := x
  exact ⟨x0, x1, x2, h.trans e, r⟩
mutual
inductive DV (H : Hp) : V → PyData → Prop
  | non : DV H .non .none
  | bl (b : Bool) : DV H (.bl b) (.bool b)
  | int (i : Int) : DV H (.int i) (.int i)
  | str (x : Str) : DV H (.str x) (.str x)
  | lst {a : Addr} {xs : List V} {ds : List PyData} : H a = some (.lst xs) → DVs H xs ds → DV H (.ref a) (.list ds)
  | tup {a : Addr} {xs : List V} {ds : List PyData} : Sol H a xs → DVs H xs ds → DV H (.ref a) (.tuple ds)
inductive DVs (H : Hp) : List V → List PyData → Prop
  | nil : DVs H [] []
  | cons {v : V} {vs : List V} {d : PyData} {ds : List PyData} : DV H v d → DVs H vs ds → DVs H (v :: vs) (d :: ds)
end
mutual
theorem DV.mono {H H' : Hp} (s : Same H H') : ∀ (d : PyData) (v : V), DV H v d → DV H' v d
  | .none, _, h => by cases h; exact .non
  | .bool b, _, h => by cases h; exact .bl b
  | .int i, _, h => by cases h; exact .int i
  | .str x, _, h => by cases h; exact .str x
  | .list ds, _, h => by
    cases h with
    | lst e r => exact .lst (s _ _ e) (DVs.mono s ds _ r)
  | .tuple ds, _, h => by
    cases h with
    | tup e r => exact .tup (e.to s) (DVs.mono s ds _ r)
  | .dict _, _, h => by cases h
theorem DVs.mono {H H' : Hp} (s : Same H H') : ∀ (ds : List PyData) (vs : List V), DVs H vs ds → DVs H' vs ds
  | [], _, h => by cases h; exact .nil
  | d :: ds, _, h => by
    cases h with
    | cons a r => exact .cons (DV.mono s d _ a) (DVs.mono s ds _ r)
end
mutual
theorem DV.dp {K : PySem.W.Frag} {H : Hp} : ∀ (d : PyData) (v : V), DV H v d → Dp K H v d
  | .none, _, h => by cases h; exact .non
  | .bool b, _, h => by cases h; exact .bl b
  | .int i, _, h => by cases h; exact .int i
  | .str x, _, h => by cases h; exact .str x
  | .list ds, _, h => by
    cases h with
    | lst e r => exact .lst (SqL.of e) (DVs.dp ds _ r)
  | .tuple ds, _, h => by
    cases h with
    | tup e r => exact .tup e.seq (DVs.dp ds _ r)
  | .dict _, _, h => by cases h
theorem DVs.dp {K : PySem.W.Frag} {H : Hp} : ∀ (ds : List PyData) (vs : List V), DVs H vs ds → DpAll K H vs ds
  | [], _, h => by cases h; exact .nil
  | d :: ds, _, h => by
    cases h with
    | cons a r => exact .cons (DV.dp d _ a) (DVs.dp ds _ r)
end
theorem DV.to {H H' : Hp} {v : V} {d : PyData} (h : DV H v d) (s : Same H H') : DV H' v d := DV.mono s d v h
theorem DVs.to {H H' : Hp} {v : List V} {d : List PyData} (h : DVs H v d) (s : Same H H') : DVs H' v d := DVs.mono s d v h
theorem DVs.len {H : Hp} : ∀ {vs : List V} {ds : List PyData}, DVs H vs ds → vs.length = ds.length
  | _, _, .nil => rfl
  | _, _, .cons _ r => by rw [List.length_cons, List.length_cons, r.len]
theorem DVs.get {H : Hp} : ∀ {vs : List V} {ds : List PyData} {i : Nat} {d : PyData}, DVs H vs ds → ds[i]? = some d → ∃ v, vs[i]? = some v ∧ DV H v d
  | _, _, _, _, .nil, e => by simp at e
  | _, _, 0, _, .cons a _, e => by simp at e; subst e; exact ⟨_, rfl, a⟩
  | _, _, i + 1, d, .cons _ r, e => by
    obtain ⟨v, h1, h2⟩ := DVs.get (i := i) (d := d) r (by simpa using e)
    exact ⟨v, by simpa using h1, h2⟩
theorem DVs.app {H : Hp} : ∀ {vs us : List V} {ds es : List PyData}, DVs H vs ds → DVs H us es → DVs H (vs ++ us) (ds ++ es)
  | _, _, _, _, .nil, s => s
  | _, _, _, _, .cons a r, s => .cons a (r.app s)
theorem DVs.take {H : Hp} : ∀ {vs : List V} {ds : List PyData} (n : Nat), DVs H vs ds → DVs H (vs.take n) (ds.take n)
  | _, _, 0, _ => by rw [List.take_zero, List.take_zero]; exact .nil
  | _, _, _ + 1, .nil => .nil
  | _, _, n + 1, .cons a r => .cons a (r.take n)
theorem DVs.drop {H : Hp} : ∀ {vs : List V} {ds : List PyData} (n : Nat), DVs H vs ds → DVs H (vs.drop n) (ds.drop n)
  | _, _, 0, r => by rw [List.drop_zero, List.drop_zero]; exact r
  | _, _, _ + 1, .nil => .nil
  | _, _, n + 1, .cons a r => r.drop n
theorem DVs.set {H : Hp} {v : V} {d : PyData} (h : DV H v d) : ∀ {vs : List V} {ds : List PyData} (n : Nat), DVs H vs ds → DVs H (vs.set n v) (ds.set n d)
  | _, _, _, .nil => .nil
  | _, _, 0, .cons _ r => .cons h r
  | _, _, n + 1, .cons a r => .cons a (DVs.set h n r)
theorem DVs.one {H : Hp} {v : V} {d : PyData} (h : DV H v d) : DVs H [v] [d] := .cons h .nil
mutual
def imm : PyData → Bool
  | .list _ => false
  | .dict _ => false
  | .tuple ds => imms ds
  | _ => true
def imms : List PyData → Bool
  | [] => true
  | d :: ds => imm d && imms ds
end
mutual
theorem DV.imm {H H' : Hp} (s : ∀ a xs, Sol H a xs → Sol H' a xs) : ∀ (d : PyData) (v : V), imm d = true → DV H v d → DV H' v d
  | .none, _, _, h => by cases h; exact .non
  | .bool b, _, _, h => by cases h; exact .bl b
  | .int i, _, _, h => by cases h; exact .int i
  | .str x, _, _, h => by cases h; exact .str x
  | .list ds, _, i, h => by unfold Lp.imm at i; cases i
  | .tuple ds, _, i, h => by
    unfold Lp.imm at i
    cases h with
    | tup e r => exact .tup (s _ _ e) (DVs.imm s ds _ i r)
  | .dict _, _, _, h => by cases h
theorem DVs.imm {H H' : Hp} (s : ∀ a xs, Sol H a xs → Sol H' a xs) : ∀ (ds : List PyData) (vs : List V), imms ds = true → DVs H vs ds → DVs H' vs ds
  | [], _, _, h => by cases h; exact .nil
  | d :: ds, _, i, h => by
    unfold Lp.imms at i
    rw [Bool.and_eq_true] at i
    cases h with
    | cons a r => exact .cons (DV.imm s d _ i.1 a) (DVs.imm s ds _ i.2 r)
end
theorem ne_at {H : Hp} {a p : Addr} (h : H a ≠ none) (n : H p = none) : a ≠ p := fun z => h (by rw [z]; exact n)

/-- L: what stands still; from (L, H) to (L', H'): nothing that stood still moves, what is (but the box b) stays, and what was there and not of L stays out of L -/
structure Ext (b : Option Addr) (L H L' H' : Hp) : Prop where
  ll : Same L L'
  hh : ∀ a o, H a = some o → b ≠ some a → H' a = some o
  dom : ∀ a, H a ≠ none → H' a ≠ none
  fr : ∀ a, L a = none → H a ≠ none → L' a = none
theorem Ext.refl (b : Option Addr) (L H : Hp) : Ext b L H L H := ⟨Same.refl L, fun _ _ h _ => h, fun _ h => h, fun _ h _ => h⟩
theorem Ext.trans {b : Option Addr} {L H L1 H1 L2 H2 : Hp} (x : Ext b L H L1 H1) (y : Ext b L1 H1 L2 H2) : Ext b L H L2 H2 :=
  ⟨x.ll.trans y.ll, fun a o h n => y.hh a o (x.hh a o h n) n, fun a h => y.dom a (x.dom a h), fun a h n => y.fr a (x.fr a h n) (x.dom a n)⟩
theorem Ext.free {b : Option Addr} {L H L' H' : Hp} (x : Ext b L H L' H') {a : Addr} (h : H' a = none) : H a = none := by
  cases q : H a with
  | none => rfl
  | some o => exact absurd h (x.dom a (by rw [q]; exact fun z => nomatch z))
theorem Ext.any {b : Option Addr} {L H L' H' : Hp} (x : Ext none L H L' H') : Ext b L H L' H' := ⟨x.ll, fun a o h _ => x.hh a o h (fun z => nomatch z), x.dom, x.fr⟩
theorem Same.dom {H H' : Hp} (s : Same H H') (a : Addr) (h : H a ≠ none) : H' a ≠ none := by
  cases q : H a with
  | none => exact absurd q h
  | some o => rw [s a o q]; exact fun z => nomatch z
/-- a new object that stands still -/
theorem Ext.new {b : Option Addr} {L H : Hp} {p : Addr} {o : HO} (s : Same L H) (n : H p = none) : Ext b L H (upd L p o) (upd H p o) := by
  refine ⟨fun a u h => ?_, fun a u h _ => ?_, fun a h => ?_, fun a h d => ?_⟩
  · rw [upd_ne (ne_of_none h (s.free n))]; exact h
  · rw [upd_ne (ne_of_none h n)]; exact h
  · rw [upd_ne (ne_at h n)]; exact h
  · rw [upd_ne (ne_at d n)]; exact h
/-- a new object beside -/
theorem Ext.own {b : Option Addr} {L H : Hp} {p : Addr} {o : HO} (n : H p = none) : Ext b L H L (upd H p o) := by
  refine ⟨Same.refl L, fun a u h _ => ?_, fun a h => ?_, fun a h _ => h⟩
  · rw [upd_ne (ne_of_none h n)]; exact h
  · rw [upd_ne (ne_at h n)]; exact h
theorem same_own {L H : Hp} {p : Addr} {o : HO} (s : Same L H) (n : L p = none) : Same L (upd H p o) := fun a u h => by
  rw [upd_ne (ne_of_none h n)]; exact s a u h
theorem same_both {L H : Hp} {p : Addr} {o : HO} (s : Same L H) : Same (upd L p o) (upd H p o) := fun a u h => by
  by_cases e : a = p
  · subst e; rw [upd_same] at h ⊢; exact h
  · rw [upd_ne e] at h ⊢; exact s a u h
/-- what is published -/
theorem same_pub {L H : Hp} {p : Addr} {o : HO} (s : Same L H) (e : H p = some o) : Same (upd L p o) H := fun a u h => by
  by_cases q : a = p
  · subst q; rw [upd_same] at h; rw [e]; exact h
  · rw [upd_ne q] at h; exact s a u h
theorem same_upd {L : Hp} {p : Addr} {o : HO} (n : L p = none) : Same L (upd L p o) := fun a u h => by
  rw [upd_ne (ne_of_none h n)]; exact h
/-- what a body knows of its caller -/
structure Zx where
  b : Option Addr
  L0 : Hp
  H0 : Hp
  P : Hp
/-- an exception: the name of its class, its fields -/
structure Xn where
  cls : Str
  fs : List (Str × PyData)
/-- what is taken for granted: the world, the classes of exceptions by name, what is known of the caller -/
structure Wx where
  w : World
  cl : Str → Option Addr
  Φ : Zx → Prop
  up : ∀ (Z : Zx) (P : Hp), Same Z.P P → Φ Z → Φ { Z with P := P }
  hp : ∀ (Z : Zx) (a : Addr) (o : HO), Z.H0 a = none → Z.b ≠ some a → Φ Z → Φ { Z with H0 := upd Z.H0 a o }
instance : Coe Wx World := ⟨Wx.w⟩
abbrev W0 (w : World) : Wx := ⟨w, fun _ => none, fun _ => True, fun _ _ _ _ => trivial, fun _ _ _ _ _ _ => trivial⟩
/-- at a: an exception of the class at C that was caught, its dict at d -/
def exc (a : Addr) (c : Value) (d : Option Addr) : HO := .ext fun h => ∃ oe vs, h.get? a = some oe ∧ oe.cls = c ∧ oe.dict = d ∧ oe.data = .fields vs
inductive FVs (H : Hp) : List (Str × V) → List (Str × PyData) → Prop
  | nil : FVs H [] []
  | cons {f : Str} {v : V} {d : PyData} {vs : List (Str × V)} {ds : List (Str × PyData)} : DV H v d → FVs H vs ds → FVs H ((f, v) :: vs) ((f, d) :: ds)
theorem FVs.to {H H' : Hp} (s : Same H H') : ∀ {vs : List (Str × V)} {ds : List (Str × PyData)}, FVs H vs ds → FVs H' vs ds
  | _, _, .nil => .nil
  | _, _, .cons a r => .cons (DV.to a s) (FVs.to s r)
/-- the fields of an exception -/
def XF (H : Hp) (d : Option Addr) (fs : List (Str × PyData)) : Prop := match d with
  | none => fs = []
  | some dx => ∃ vs, H dx = some (.xd vs) ∧ FVs H vs fs
theorem XF.to {H H' : Hp} (s : Same H H') {d : Option Addr} {fs : List (Str × PyData)} (x : XF H d fs) : XF H' d fs := by
  cases d with
  | none => exact x
  | some dx =>
    obtain ⟨vs, h1, h2⟩ := x
    exact ⟨vs, s _ _ h1, h2.to s⟩
def XV (w : Wx) (H : Hp) (v : V) (x : Xn) : Prop := ∃ a C d, v = .ref a ∧ w.cl x.cls = some C ∧ H a = some (exc a (.ref C) d) ∧ XF H d x.fs
theorem XV.to {w : Wx} {H H' : Hp} {v : V} {x : Xn} (h : XV w H v x) (s : Same H H') : XV w H' v x := by
  obtain ⟨a, C, d, h1, h2, h3, h4⟩ := h
  exact ⟨a, C, d, h1, h2, s _ _ h3, h4.to s⟩
/-- the rows of a dict stand still -/
def KD (L : Hp) (xs : List DRow) : Prop := ∀ x ∈ xs, Sol L x.b (x.k.map V.int) ∧ DV L x.v x.d
theorem KD.to {L L' : Hp} {xs : List DRow} (s : Same L L') (h : KD L xs) : KD L' xs := fun x hx => ⟨(h x hx).1.to s, (h x hx).2.to s⟩
/-- the members of a set of tuples stand still; M: the members, some perhaps more than once -/
def TSM (L : Hp) (A : List (Addr × List Int)) (M : List (List Int)) : Prop := (∀ p ∈ A, Sol L p.1 (p.2.map V.int)) ∧ A.length ≤ M.length ∧ ∀ k, k ∈ A.map (·.2) ↔ k ∈ M
theorem TSM.to {L L' : Hp} {A : List (Addr × List Int)} {M : List (List Int)} (h : TSM L A M) (s : Same L L') : TSM L' A M := ⟨fun p hp => (h.1 p hp).to s, h.2⟩
def DVd (L : Hp) (v : V) (xs : List DRow) : Prop := ∃ a, v = .ref a ∧ IsDct L a xs ∧ KD L xs
theorem DVd.to {L L' : Hp} {v : V} {xs : List DRow} (s : Same L L') (h : DVd L v xs) : DVd L' v xs := by
  obtain ⟨a, h1, h2, h3⟩ := h
  obtain ⟨ob, h2⟩ := h2
  exact ⟨a, h1, ⟨ob, s _ _ h2⟩, h3.to s⟩
inductive SV where
  | un | sh (d : PyData) | ow (ds : List PyData) | bx | st (S : Int → Bool) (n : Nat) | raw (v : V) | exn (x : Xn) | dco (xs : List DRow) | dsh (xs : List DRow) | sto (M : List (List Int))
structure Env where
  s : List SV
  c : Nat
def Env.set (ε : Env) (i : Nat) (x : SV) : Env := ⟨ε.s.set i x, ε.c⟩
def Own : SV → Bool
  | .ow _ => true
  | .st _ _ => true
  | .dco _ => true
  | .sto _ => true
  | _ => false
def SlotR (w : Wx) (Z : Zx) (O : Addr → Prop) (L H : Hp) (o : Option V) : SV → Prop
  | .un => True
  | .sh d => ∃ v, o = some v ∧ DV L v d
  | .ow ds => ∃ a xs, o = some (.ref a) ∧ O a ∧ L a = none ∧ Z.H0 a = none ∧ H a = some (.lst xs) ∧ DVs L xs ds
  | .bx => ∃ b, Z.b = some b ∧ o = some (.ref b)
  | .st S n => ∃ a, o = some (.ref a) ∧ O a ∧ L a = none ∧ Z.H0 a = none ∧ H a = some (SetO w a S n)
  | .raw v => o = some v
  | .exn x => ∃ v, o = some v ∧ XV w L v x
  | .dco xs => ∃ a, o = some (.ref a) ∧ O a ∧ L a = none ∧ Z.H0 a = none ∧ IsDct H a xs ∧ KD L xs
  | .dsh xs => ∃ v, o = some v ∧ DVd L v xs
  | .sto M => ∃ a A, o = some (.ref a) ∧ O a ∧ L a = none ∧ Z.H0 a = none ∧ H a = some (SetTI w.w a A) ∧ TSM L A M
structure Rep (w : Wx) (Z : Zx) (O : Addr → Prop) (L H : Hp) (σ : L2.St) (ε : Env) : Prop where
  lh : Same L H
  pn : Same Z.P L
  ex : Ext Z.b Z.L0 Z.H0 L H
  bo : ∀ b, Z.b = some b → L b = none ∧ Box H b ε.c ∧ Z.H0 b ≠ none
  oh : ∀ a, O a → H a ≠ none ∧ Z.H0 a = none
  len : σ.length = ε.s.length
  sl : ∀ (i : Nat) (x : SV), ε.s[i]? = some x → ∃ o, σ[i]? = some o ∧ SlotR w Z O L H o x
  di : ∀ (i j : Nat) (x y : SV) (a : Addr), i ≠ j → ε.s[i]? = some x → ε.s[j]? = some y → Own x = true → Own y = true → σ[i]? = some (some (.ref a)) → σ[j]? ≠ some (some (.ref a))
  ph : w.Φ Z
inductive R where
  | sh (d : PyData) | nw (ds : List PyData) | br (i : Nat) (ds : List PyData) | bx | raw (v : V) | sr (i : Nat) (S : Int → Bool) (n : Nat) | exn (x : Xn) | dnw (xs : List DRow) | dbr (i : Nat) (xs : List DRow) | dsh (xs : List DRow) | srt (i : Nat) (M : List (List Int))
def VR (w : Wx) (Z : Zx) (O : Addr → Prop) (σ : L2.St) (Hs L H : Hp) (v : V) : R → Prop
  | .sh d => DV L v d
  | .nw ds => ∃ a xs, v = .ref a ∧ Hs a = none ∧ ¬ O a ∧ Z.H0 a = none ∧ L a = none ∧ H a = some (.lst xs) ∧ DVs L xs ds
  | .br i ds => ∃ a xs, v = .ref a ∧ σ[i]? = some (some (.ref a)) ∧ O a ∧ Z.H0 a = none ∧ L a = none ∧ H a = some (.lst xs) ∧ DVs L xs ds
  | .bx => ∃ b, Z.b = some b ∧ v = .ref b
  | .raw u => v = u
  | .sr i S n => ∃ a, v = .ref a ∧ σ[i]? = some (some (.ref a)) ∧ O a ∧ Z.H0 a = none ∧ L a = none ∧ H a = some (SetO w a S n)
  | .exn x => XV w L v x
  | .dnw xs => ∃ a, v = .ref a ∧ Hs a = none ∧ ¬ O a ∧ Z.H0 a = none ∧ L a = none ∧ IsDct H a xs ∧ KD L xs
  | .dbr i xs => ∃ a, v = .ref a ∧ σ[i]? = some (some (.ref a)) ∧ O a ∧ Z.H0 a = none ∧ L a = none ∧ IsDct H a xs ∧ KD L xs
  | .dsh xs => DVd L v xs
  | .srt i M => ∃ a A, v = .ref a ∧ σ[i]? = some (some (.ref a)) ∧ O a ∧ Z.H0 a = none ∧ L a = none ∧ H a = some (SetTI w.w a A) ∧ TSM L A M
/-- as VR, for what operations give: nothing of the slots -/
def VR0 (Hs L H : Hp) (v : V) : R → Prop
  | .sh d => DV L v d
  | .nw ds => ∃ a xs, v = .ref a ∧ Hs a = none ∧ L a = none ∧ H a = some (.lst xs) ∧ DVs L xs ds
  | .dnw xs => ∃ a, v = .ref a ∧ Hs a = none ∧ L a = none ∧ IsDct H a xs ∧ KD L xs
  | .dsh xs => DVd L v xs
  | _ => False
section
variable {w : Wx} {Z : Zx} {O : Addr → Prop} {σ : L2.St} {ε : Env} {Hs L H L' H' : Hp} {v : V} {r : R}
theorem Rep.nob (x : Rep w Z O L H σ ε) {a : Addr} (h : Z.H0 a = none) : Z.b ≠ some a := fun e => (x.bo a e).2.2 h
theorem VR.mono (x : VR w Z O σ Hs L H v r) (y : Rep w Z O L H σ ε) (e : Ext Z.b L H L' H') : VR w Z O σ Hs L' H' v r := by
  cases r with
  | sh d => exact DV.to x e.ll
  | nw ds =>
    obtain ⟨a, xs, rfl, h1, h2, h3, h4, h5, h6⟩ := x
    exact ⟨a, xs, rfl, h1, h2, h3, e.fr a h4 (by rw [h5]; exact fun z => nomatch z), e.hh a _ h5 (y.nob h3), h6.to e.ll⟩
  | br i ds =>
    obtain ⟨a, xs, rfl, h1, h2, h3, h4, h5, h6⟩ := x
    exact ⟨a, xs, rfl, h1, h2, h3, e.fr a h4 (by rw [h5]; exact fun z => nomatch z), e.hh a _ h5 (y.nob h3), h6.to e.ll⟩
  | bx => exact x
  | raw u => exact x
  | exn y => exact XV.to x e.ll
  | sr i S n =>
    obtain ⟨a, rfl, h1, h2, h3, h4, h5⟩ := x
    exact ⟨a, rfl, h1, h2, h3, e.fr a h4 (by rw [h5]; exact fun z => nomatch z), e.hh a _ h5 (y.nob h3)⟩
  | dnw xs =>
    obtain ⟨a, rfl, h1, h2, h3, h4, ⟨ob, h5⟩, h6⟩ := x
    exact ⟨a, rfl, h1, h2, h3, e.fr a h4 (by rw [h5]; exact fun z => nomatch z), ⟨ob, e.hh a _ h5 (y.nob h3)⟩, h6.to e.ll⟩
  | dbr i xs =>
    obtain ⟨a, rfl, h1, h2, h3, h4, ⟨ob, h5⟩, h6⟩ := x
    exact ⟨a, rfl, h1, h2, h3, e.fr a h4 (by rw [h5]; exact fun z => nomatch z), ⟨ob, e.hh a _ h5 (y.nob h3)⟩, h6.to e.ll⟩
  | srt i M =>
    obtain ⟨a, A, rfl, h1, h2, h3, h4, h5, h6⟩ := x
    exact ⟨a, A, rfl, h1, h2, h3, e.fr a h4 (by rw [h5]; exact fun z => nomatch z), e.hh a _ h5 (y.nob h3), h6.to e.ll⟩
  | dsh xs => exact DVd.to e.ll x
theorem VR.back (x : VR w Z O σ Hs L H v r) {Hr Lr : Hp} (e : Ext Z.b Lr Hr L' Hs) : VR w Z O σ Hr L H v r := by
  cases r with
  | nw ds =>
    obtain ⟨a, xs, rfl, h1, h2, h3, h4, h5, h6⟩ := x
    exact ⟨a, xs, rfl, e.free h1, h2, h3, h4, h5, h6⟩
  | dnw xs =>
    obtain ⟨a, rfl, h1, h2, h3, h4, h5, h6⟩ := x
    exact ⟨a, rfl, e.free h1, h2, h3, h4, h5, h6⟩
  | _ => exact x
theorem VR0.vr (x : VR0 Hs L H v r) (y : Rep w Z O L' Hs σ ε) : VR w Z O σ Hs L H v r := by
  cases r with
  | sh d => exact x
  | nw ds =>
    obtain ⟨a, xs, rfl, h1, h4, h5, h6⟩ := x
    exact ⟨a, xs, rfl, h1, fun o => (y.oh a o).1 h1, y.ex.free h1, h4, h5, h6⟩
  | br i ds => exact x.elim
  | bx => exact x.elim
  | raw u => exact x.elim
  | sr i S n => exact x.elim
  | exn y => exact x.elim
  | dnw xs =>
    obtain ⟨a, rfl, h1, h4, h5, h6⟩ := x
    exact ⟨a, rfl, h1, fun o => (y.oh a o).1 h1, y.ex.free h1, h4, h5, h6⟩
  | dbr i xs => exact x.elim
  | srt i M => exact x.elim
  | dsh xs => exact x
/-- what an operation leaves, the slots hold -/
theorem Rep.step (x : Rep w Z O L H σ ε) (e : Ext none L H L' H') (s : Same L' H') : Rep w Z O L' H' σ ε := by
  have hh : ∀ a o, H a = some o → H' a = some o := fun a o h => e.hh a o h fun z => nomatch z
  refine ⟨s, x.pn.trans e.ll, x.ex.trans e.any, fun b hb => ?_, fun a h => ⟨e.dom a (x.oh a h).1, (x.oh a h).2⟩, x.len, fun i y hy => ?_, x.di, x.ph⟩
  · obtain ⟨h1, h2, h3⟩ := x.bo b hb
    refine ⟨e.fr b h1 h2.there, ?_, h3⟩
    obtain ⟨x0, x1, x2, q, r⟩ := h2
    exact ⟨x0, x1, x2, hh _ _ q, r⟩
  · obtain ⟨o, h1, h2⟩ := x.sl i y hy
    refine ⟨o, h1, ?_⟩
    cases y with
    | un => trivial
    | sh d =>
      obtain ⟨v, e1, e2⟩ := h2
      exact ⟨v, e1, e2.to e.ll⟩
    | ow ds =>
      obtain ⟨a, xs, e1, e2, e3, e4, e5, e6⟩ := h2
      exact ⟨a, xs, e1, e2, e.fr a e3 (by rw [e5]; exact fun z => nomatch z), e4, hh _ _ e5, e6.to e.ll⟩
    | bx => exact h2
    | st S n =>
      obtain ⟨a, e1, e2, e3, e4, e5⟩ := h2
      exact ⟨a, e1, e2, e.fr a e3 (by rw [e5]; exact fun z => nomatch z), e4, hh _ _ e5⟩
    | raw u => exact h2
    | exn x => obtain ⟨v, e1, e2⟩ := h2; exact ⟨v, e1, e2.to e.ll⟩
    | dco xs =>
      obtain ⟨a, e1, e2, e3, e4, ⟨ob, e5⟩, e6⟩ := h2
      exact ⟨a, e1, e2, e.fr a e3 (by rw [e5]; exact fun z => nomatch z), e4, ⟨ob, hh _ _ e5⟩, e6.to e.ll⟩
    | sto M =>
      obtain ⟨a, A, e1, e2, e3, e4, e5, e6⟩ := h2
      exact ⟨a, A, e1, e2, e.fr a e3 (by rw [e5]; exact fun z => nomatch z), e4, hh _ _ e5, e6.to e.ll⟩
    | dsh xs => obtain ⟨v, e1, e2⟩ := h2; exact ⟨v, e1, e2.to e.ll⟩
/-- a new list that nobody holds is published -/
theorem pub (x : Rep w Z O L' H' σ ε) (e : Ext Z.b L H L' H') {ds : List PyData} (h : VR w Z O σ H L' H' v (.nw ds)) : ∃ L2, Rep w Z O L2 H' σ ε ∧ Ext Z.b L H L2 H' ∧ DV L2 v (.list ds) := by
  obtain ⟨a, xs, rfl, h1, h2, h3, h4, h5, h6⟩ := h
  have s1 : Same L' (upd L' a (.lst xs)) := same_upd h4
  refine ⟨upd L' a (.lst xs), ⟨same_pub x.lh h5, x.pn.trans s1, ⟨x.ex.ll.trans s1, x.ex.hh, x.ex.dom, fun b hb hd => ?_⟩, fun b hb => ?_, x.oh, x.len, fun i y hy => ?_, x.di, x.ph⟩, ⟨e.ll.trans s1, e.hh, e.dom, fun b hb hd => ?_⟩, .lst upd_same (h6.to s1)⟩
  · rw [upd_ne (ne_at hd h3)]; exact x.ex.fr b hb hd
  · obtain ⟨q1, q2, q3⟩ := x.bo b hb
    exact ⟨by rw [upd_ne (ne_at q3 h3)]; exact q1, q2, q3⟩
  · obtain ⟨o, q1, q2⟩ := x.sl i y hy
    refine ⟨o, q1, ?_⟩
    cases y with
    | un => trivial
    | sh d =>
      obtain ⟨v, e1, e2⟩ := q2
      exact ⟨v, e1, e2.to s1⟩
    | ow ds =>
      obtain ⟨b, ys, e1, e2, e3, e4, e5, e6⟩ := q2
      exact ⟨b, ys, e1, e2, by rw [upd_ne (fun z => h2 (by rw [← z]; exact e2))]; exact e3, e4, e5, e6.to s1⟩
    | bx => exact q2
    | st S n =>
      obtain ⟨b, e1, e2, e3, e4, e5⟩ := q2
      exact ⟨b, e1, e2, by rw [upd_ne (fun z => h2 (by rw [← z]; exact e2))]; exact e3, e4, e5⟩
    | raw u => exact q2
    | exn x => obtain ⟨v, e1, e2⟩ := q2; exact ⟨v, e1, e2.to s1⟩
    | dco xs =>
      obtain ⟨b, e1, e2, e3, e4, e5, e6⟩ := q2
      exact ⟨b, e1, e2, by rw [upd_ne (fun z => h2 (by rw [← z]; exact e2))]; exact e3, e4, e5, e6.to s1⟩
    | sto M =>
      obtain ⟨b, A, e1, e2, e3, e4, e5, e6⟩ := q2
      exact ⟨b, A, e1, e2, by rw [upd_ne (fun z => h2 (by rw [← z]; exact e2))]; exact e3, e4, e5, e6.to s1⟩
    | dsh xs => obtain ⟨v, e1, e2⟩ := q2; exact ⟨v, e1, e2.to s1⟩
  · rw [upd_ne (ne_at hd h1)]; exact e.fr b hb hd
end
/-- a value as data, its own list (if it is one) as it stands in H -/
def VL (L H : Hp) (v : V) (d : PyData) : Prop := DV L v d ∨ ∃ a xs ds, d = .list ds ∧ v = .ref a ∧ H a = some (.lst xs) ∧ DVs L xs ds
section
variable {L H : Hp} {v : V}
theorem VL.dv {d : PyData} (x : VL L H v d) (s : Same L H) : DV H v d := by
  rcases x with x | ⟨a, xs, ds, rfl, rfl, h, r⟩
  · exact x.to s
  · exact .lst h (r.to s)
theorem VL.lst {ds : List PyData} (x : VL L H v (.list ds)) (s : Same L H) : ∃ a xs, v = .ref a ∧ H a = some (.lst xs) ∧ DVs L xs ds := by
  rcases x with x | ⟨a, xs, es, e, rfl, h, r⟩
  · cases x with
    | lst h r => exact ⟨_, _, rfl, s _ _ h, r⟩
  · cases e; exact ⟨a, xs, rfl, h, r⟩
theorem VL.tup {ds : List PyData} (x : VL L H v (.tuple ds)) : ∃ a xs, v = .ref a ∧ Sol L a xs ∧ DVs L xs ds := by
  rcases x with x | ⟨a, xs, es, e, rfl, h, r⟩
  · cases x with
    | tup h r => exact ⟨_, _, rfl, h, r⟩
  · cases e
theorem VL.int {i : Int} (x : VL L H v (.int i)) : v = .int i := by
  rcases x with x | ⟨a, xs, es, e, _⟩
  · cases x; rfl
  · cases e
theorem VL.bl {i : Bool} (x : VL L H v (.bool i)) : v = .bl i := by
  rcases x with x | ⟨a, xs, es, e, _⟩
  · cases x; rfl
  · cases e
theorem VL.str {i : Str} (x : VL L H v (.str i)) : v = .str i := by
  rcases x with x | ⟨a, xs, es, e, _⟩
  · cases x; rfl
  · cases e
theorem VL.non (x : VL L H v .none) : v = .non := by
  rcases x with x | ⟨a, xs, es, e, _⟩
  · cases x; rfl
  · cases e
end
/-- as data, a pair just made by a walk taken as it stands -/
def VT (L H : Hp) (v : V) (d : PyData) : Prop := DV L v d ∨ ∃ a xs ds, d = .tuple ds ∧ v = .ref a ∧ H a = some (.tup xs) ∧ DVs L xs ds
def VI (pk : Bool) (L H : Hp) (v : V) (d : PyData) : Prop := match pk with
  | true => VT L H v d
  | false => DV L v d
theorem VI.of {pk : Bool} {L H : Hp} {v : V} {d : PyData} (h : DV L v d) : VI pk L H v d := by
  cases pk with
  | true => exact .inl h
  | false => exact h
def R.dat : R → Option PyData
  | .sh d => some d
  | .nw ds => some (.list ds)
  | .br _ ds => some (.list ds)
  | _ => none
theorem VR.vl {w : Wx} {Z : Zx} {O : Addr → Prop} {σ : L2.St} {Hs L H : Hp} {v : V} {r : R} {d : PyData} (x : VR w Z O σ Hs L H v r) (e : r.dat = some d) : VL L H v d := by
  cases r with
  | sh d => cases e; exact .inl x
  | nw ds =>
    cases e
    obtain ⟨a, xs, rfl, h1, h2, h3, h4, h5, h6⟩ := x
    exact .inr ⟨a, xs, ds, rfl, rfl, h5, h6⟩
  | br i ds =>
    cases e
    obtain ⟨a, xs, rfl, h1, h2, h3, h4, h5, h6⟩ := x
    exact .inr ⟨a, xs, ds, rfl, rfl, h5, h6⟩
  | bx => cases e
  | raw u => cases e
  | sr i S n => cases e
  | exn y => cases e
  | dnw xs => cases e
  | dbr i xs => cases e
  | srt i M => cases e
  | dsh xs => cases e
end Lp

namespace Lp
open PySem PySem.Spec PyProof.Rows L2
abbrev DTE := Env → (R → Env → Prop) → Prop
abbrev DTT := Env → (Bool → Env → Prop) → Prop
abbrev DTA := Env → (List R → Env → Prop) → Prop
structure SE (w : Wx) (t : TE) (f : DTE) : Prop where
  mono : ∀ ε (A B : R → Env → Prop), (∀ r ε', A r ε' → B r ε') → f ε A → f ε B
  run : ∀ (Z : Zx) (O : Addr → Prop) (σ : L2.St) (ε : Env) (L H : Hp) (Q : VK), Rep w Z O L H σ ε → f ε (fun r ε' => ∀ v L' H', Rep w Z O L' H' σ ε' → Ext Z.b L H L' H' → VR w Z O σ H L' H' v r → Q v H') → t σ H Q
structure ST (w : Wx) (t : TT) (f : DTT) : Prop where
  mono : ∀ ε (A B : Bool → Env → Prop), (∀ r ε', A r ε' → B r ε') → f ε A → f ε B
  run : ∀ (Z : Zx) (O : Addr → Prop) (σ : L2.St) (ε : Env) (L H : Hp) (Q : Bool → Hp → Prop), Rep w Z O L H σ ε → f ε (fun b ε' => ∀ L' H', Rep w Z O L' H' σ ε' → Ext Z.b L H L' H' → Q b H') → t σ H Q
inductive VRs (w : Wx) (Z : Zx) (O : Addr → Prop) (σ : L2.St) (Hs L H : Hp) : List V → List R → Prop
  | nil : VRs w Z O σ Hs L H [] []
  | cons {v : V} {vs : List V} {r : R} {rs : List R} : VR w Z O σ Hs L H v r → VRs w Z O σ Hs L H vs rs → VRs w Z O σ Hs L H (v :: vs) (r :: rs)
/-- n arguments, each published -/
structure SA (w : Wx) (n : Nat) (t : TA) (f : DTA) : Prop where
  mono : ∀ ε (A B : List R → Env → Prop), (∀ r ε', A r ε' → B r ε') → f ε A → f ε B
  run : ∀ (Z : Zx) (O : Addr → Prop) (σ : L2.St) (ε : Env) (L H : Hp) (Q : List V → Hp → Prop), Rep w Z O L H σ ε → f ε (fun rs ε' => ∀ vs L' H', Rep w Z O L' H' σ ε' → Ext Z.b L H L' H' → VRs w Z O σ H L' H' vs rs → rs.length = n → (∀ r ∈ rs, ∀ ds, r ≠ .nw ds) → Q vs H') → t σ H Q
section
variable {w : Wx} {ta tb tc : TE} {f g h : DTE}
theorem VRs.mono {Z : Zx} {O : Addr → Prop} {σ : L2.St} {ε : Env} {Hs L H L' H' : Hp} (y : Rep w Z O L H σ ε) (e : Ext Z.b L H L' H') : ∀ {vs : List V} {rs : List R}, VRs w Z O σ Hs L H vs rs → VRs w Z O σ Hs L' H' vs rs
  | _, _, .nil => .nil
  | _, _, .cons a r => .cons (a.mono y e) (VRs.mono y e r)
theorem VRs.back {Z : Zx} {O : Addr → Prop} {σ : L2.St} {Hs L H L' Hr Lr : Hp} (e : Ext Z.b Lr Hr L' Hs) : ∀ {vs : List V} {rs : List R}, VRs w Z O σ Hs L H vs rs → VRs w Z O σ Hr L H vs rs
  | _, _, .nil => .nil
  | _, _, .cons a r => .cons (a.back e) (VRs.back e r)
theorem VRs.len {Z : Zx} {O : Addr → Prop} {σ : L2.St} {Hs L H : Hp} : ∀ {vs : List V} {rs : List R}, VRs w Z O σ Hs L H vs rs → vs.length = rs.length
  | _, _, .nil => rfl
  | _, _, .cons _ r => by rw [List.length_cons, List.length_cons, r.len]
def dVar (i : Nat)  (ε : Env) (Q : R → Env → Prop) : Prop := match ε.s[i]? with
  | some (.sh d) => Q (.sh d) ε
  | some (.ow ds) => Q (.br i ds) ε
  | some .bx => Q .bx ε
  | some (.raw v) => Q (.raw v) ε
  | some (.st S n) => Q (.sr i S n) ε
  | some (.exn x) => Q (.exn x) ε
  | some (.dco xs) => Q (.dbr i xs) ε
  | some (.sto M) => Q (.srt i M) ε
  | some (.dsh xs) => Q (.dsh xs) ε
  | _ => False
theorem se_var {i : Nat} : SE w (tVar i) (dVar i) := by
  constructor
  · intro ε A B h q
    unfold dVar at q ⊢
    split at q
    all_goals first | exact h _ _ q | exact q.elim
  · intro Z O σ ε L H Q x q
    unfold dVar at q
    have e0 := Ext.refl Z.b L H
    split at q
    · rename_i d hd
      obtain ⟨o, h1, v, h2, h3⟩ := x.sl i _ hd
      subst h2
      exact ⟨v, h1, q v L H x e0 h3⟩
    · rename_i ds hd
      obtain ⟨o, h1, a, xs, h2, h3, h4, h5, h6, h7⟩ := x.sl i _ hd
      subst h2
      exact ⟨.ref a, h1, q _ L H x e0 ⟨a, xs, rfl, h1, h3, h5, h4, h6, h7⟩⟩
    · rename_i hd
      obtain ⟨o, h1, b, h2, h3⟩ := x.sl i _ hd
      subst h3
      exact ⟨.ref b, h1, q _ L H x e0 ⟨b, h2, rfl⟩⟩
    · rename_i v hd
      obtain ⟨o, h1, h2⟩ := x.sl i _ hd
      have h2' : o = some v := h2
      subst h2'
      exact ⟨v, h1, q _ L H x e0 rfl⟩
    · rename_i S n hd
      obtain ⟨o, h1, a, h2, h3, h4, h5, h6⟩ := x.sl i _ hd
      subst h2
      exact ⟨.ref a, h1, q _ L H x e0 ⟨a, rfl, h1, h3, h5, h4, h6⟩⟩
    · rename_i y hd
      obtain ⟨o, h1, v, h2, h3⟩ := x.sl i _ hd
      subst h2
      exact ⟨v, h1, q v L H x e0 h3⟩
    · rename_i xs hd
      obtain ⟨o, h1, a, h2, h3, h4, h5, h6, h7⟩ := x.sl i _ hd
      subst h2
      exact ⟨.ref a, h1, q _ L H x e0 ⟨a, rfl, h1, h3, h5, h4, h6, h7⟩⟩
    · rename_i M hd
      obtain ⟨o, h1, a, A, h2, h3, h4, h5, h6, h7⟩ := x.sl i _ hd
      subst h2
      exact ⟨.ref a, h1, q _ L H x e0 ⟨a, A, rfl, h1, h3, h5, h4, h6, h7⟩⟩
    · rename_i xs hd
      obtain ⟨o, h1, v, h2, h3⟩ := x.sl i _ hd
      subst h2
      exact ⟨v, h1, q v L H x e0 h3⟩
    · exact q.elim
def dC (d : PyData)  (ε : Env) (Q : R → Env → Prop) : Prop := Q (.sh d) ε
theorem se_int {i : Int} : SE w (tC (.int i)) (dC (.int i)) := ⟨fun ε A B h q => h _ _ q, fun Z O σ ε L H Q x q => q _ L H x (Ext.refl _ _ _) (.int i)⟩
theorem se_bl {i : Bool} : SE w (tC (.bl i)) (dC (.bool i)) := ⟨fun ε A B h q => h _ _ q, fun Z O σ ε L H Q x q => q _ L H x (Ext.refl _ _ _) (.bl i)⟩
theorem se_str {i : Str} : SE w (tC (.str i)) (dC (.str i)) := ⟨fun ε A B h q => h _ _ q, fun Z O σ ε L H Q x q => q _ L H x (Ext.refl _ _ _) (.str i)⟩
theorem se_non : SE w (tC .non) (dC .none) := ⟨fun ε A B h q => h _ _ q, fun Z O σ ε L H Q x q => q _ L H x (Ext.refl _ _ _) .non⟩
def dRaw (v : V)  (ε : Env) (Q : R → Env → Prop) : Prop := Q (.raw v) ε
structure R2K (r : R2) (φ : PyData → PyData → (R → Prop) → Prop) : Prop where
  mono : ∀ x y (A B : R → Prop), (∀ r, A r → B r) → φ x y A → φ x y B
  run : ∀ (L H : Hp) (x y : V) (dx dy : PyData) (Q : VK), Same L H → VL L H x dx → VL L H y dy → φ dx dy (fun r => ∀ v L' H', Ext none L H L' H' → Same L' H' → VR0 H L' H' v r → Q v H') → r x y H Q
def dOp (φ : PyData → PyData → (R → Prop) → Prop) (f g : DTE)  (ε : Env) (Q : R → Env → Prop) : Prop := f ε fun x ε1 => g ε1 fun y ε2 => match x.dat, y.dat with
  | some dx, some dy => φ dx dy fun r => Q r ε2
  | _, _ => False
theorem se_op {r : R2} {φ : PyData → PyData → (R → Prop) → Prop} (k : R2K r φ) (hf : SE w ta f) (hg : SE w tb g) : SE w (tOp r ta tb) (dOp φ f g) := by
  constructor
  · intro ε A B h q
    refine hf.mono _ _ _ (fun x ε1 q => hg.mono _ _ _ (fun y ε2 q => ?_) q) q
    show match x.dat, y.dat with
      | some dx, some dy => φ dx dy fun r => B r ε2
      | _, _ => False
    split at q
    · exact k.mono _ _ _ _ (fun r q => h _ _ q) q
    · exact q.elim
  · intro Z O σ ε L H Q X q
    refine hf.run Z O σ ε L H _ X (hf.mono _ _ _ (fun x ε1 q => ?_) q)
    intro v L1 H1 X1 e1 r1
    refine hg.run Z O σ ε1 L1 H1 _ X1 (hg.mono _ _ _ (fun y ε2 q => ?_) q)
    intro u L2 H2 X2 e2 r2
    have r1' := r1.mono X1 e2
    split at q
    · rename_i dx dy ex ey
      refine k.run L2 H2 v u dx dy Q X2.lh (r1'.vl ex) (r2.vl ey) (k.mono _ _ _ _ (fun r q => ?_) q)
      intro z L3 H3 e3 s3 r3
      exact q z L3 H3 (X2.step e3 s3) ((e1.trans e2).trans e3.any) ((r3.vr X2).back (e1.trans e2))
    · exact q.elim
structure RUK (r : V → Hp → VK → Prop) (φ : PyData → (R → Prop) → Prop) : Prop where
  mono : ∀ x (A B : R → Prop), (∀ r, A r → B r) → φ x A → φ x B
  run : ∀ (L H : Hp) (x : V) (dx : PyData) (Q : VK), Same L H → VL L H x dx → φ dx (fun r => ∀ v L' H', Ext none L H L' H' → Same L' H' → VR0 H L' H' v r → Q v H') → r x H Q
def dUn (φ : PyData → (R → Prop) → Prop) (f : DTE)  (ε : Env) (Q : R → Env → Prop) : Prop := f ε fun x ε1 => match x.dat with
  | some dx => φ dx fun r => Q r ε1
  | _ => False
theorem se_un {r : V → Hp → VK → Prop} {φ : PyData → (R → Prop) → Prop} (k : RUK r φ) (hf : SE w ta f) : SE w (tUn r ta) (dUn φ f) := by
  constructor
  · intro ε A B h q
    refine hf.mono _ _ _ (fun x ε1 q => ?_) q
    show match x.dat with
      | some dx => φ dx fun r => B r ε1
      | _ => False
    split at q
    · exact k.mono _ _ _ (fun r q => h _ _ q) q
    · exact q.elim
  · intro Z O σ ε L H Q X q
    refine hf.run Z O σ ε L H _ X (hf.mono _ _ _ (fun x ε1 q => ?_) q)
    intro v L1 H1 X1 e1 r1
    split at q
    · rename_i dx ex
      refine k.run L1 H1 v dx Q X1.lh (r1.vl ex) (k.mono _ _ _ (fun r q => ?_) q)
      intro z L3 H3 e3 s3 r3
      exact q z L3 H3 (X1.step e3 s3) (e1.trans e3.any) ((r3.vr X1).back e1)
    · exact q.elim
def dTest (f : DTE)  (ε : Env) (Q : Bool → Env → Prop) : Prop := f ε fun r ε1 => match r.dat with
  | some (.bool k) => Q k ε1
  | _ => False
theorem st_test (hf : SE w ta f) : ST w (tTest ta) (dTest f) := by
  constructor
  · intro ε A B h q
    refine hf.mono _ _ _ (fun r ε1 q => ?_) q
    show match r.dat with
      | some (.bool k) => B k ε1
      | _ => False
    split at q
    · exact h _ _ q
    · exact q.elim
  · intro Z O σ ε L H Q X q
    refine hf.run Z O σ ε L H _ X (hf.mono _ _ _ (fun r ε1 q => ?_) q)
    intro v L1 H1 X1 e1 r1
    split at q
    · rename_i k ek
      exact ⟨k, (r1.vl ek).bl, q L1 H1 X1 e1⟩
    · exact q.elim
def truD : PyData → Option Bool
  | .none => some false
  | .bool b => some b
  | .int i => some (i != 0)
  | .list ds => some (!ds.isEmpty)
  | .tuple ds => some (!ds.isEmpty)
  | _ => none
theorem isE {H : Hp} {xs : List V} {ds : List PyData} (h : DVs H xs ds) : xs.isEmpty = ds.isEmpty := by cases h <;> rfl
def dTruth (f : DTE)  (ε : Env) (Q : Bool → Env → Prop) : Prop := f ε fun r ε1 => match r.dat.bind truD with
  | some k => Q k ε1
  | _ => False
theorem tru_of {K : PySem.W.Frag} {L H : Hp} {v : V} {d : PyData} {k : Bool} (x : VL L H v d) (s : Same L H) (e : truD d = some k) : TruV K v H k := by
  cases d with
  | none => rw [x.non]; cases e; rfl
  | bool b => rw [x.bl]; cases e; rfl
  | int i => rw [x.int]; cases e; rfl
  | list ds =>
    obtain ⟨a, xs, rfl, h1, h2⟩ := x.lst s
    cases e
    exact .inl ⟨xs, SqL.of h1, by rw [isE h2]⟩
  | tuple ds =>
    obtain ⟨a, xs, rfl, h1, h2⟩ := x.tup
    cases e
    exact .inr (.inl ⟨xs, (h1.to s).seq, by rw [isE h2]⟩)
  | str _ => cases e
  | dict _ => cases e
theorem st_truth {K : PySem.W.Frag} (hf : SE w ta f) : ST w (fun σ H Q => ta σ H fun x H1 => ∃ k, TruV K x H1 k ∧ Q k H1) (dTruth f) := by
  constructor
  · intro ε A B h q
    refine hf.mono _ _ _ (fun r ε1 q => ?_) q
    show match r.dat.bind truD with
      | some k => B k ε1
      | _ => False
    split at q
    · exact h _ _ q
    · exact q.elim
  · intro Z O σ ε L H Q X q
    refine hf.run Z O σ ε L H _ X (hf.mono _ _ _ (fun r ε1 q => ?_) q)
    intro v L1 H1 X1 e1 r1
    split at q
    · rename_i k ek
      cases ed : r.dat with
      | none => rw [ed] at ek; cases ek
      | some d =>
        rw [ed] at ek
        exact ⟨k, tru_of (r1.vl ed) X1.lh ek, q L1 H1 X1 e1⟩
    · exact q.elim
def dAnd (f g : DTT)  (ε : Env) (Q : Bool → Env → Prop) : Prop := f ε fun c ε1 => if c = true then g ε1 Q else Q false ε1
def dOr (f g : DTT)  (ε : Env) (Q : Bool → Env → Prop) : Prop := f ε fun c ε1 => if c = true then Q true ε1 else g ε1 Q
def dNot (f : DTT)  (ε : Env) (Q : Bool → Env → Prop) : Prop := f ε fun c ε1 => Q (!c) ε1
variable {t u : TT} {p q : DTT}
theorem st_and (hf : ST w t p) (hg : ST w u q) : ST w (tAnd t u) (dAnd p q) := by
  constructor
  · intro ε A B h z
    refine hf.mono _ _ _ (fun c ε1 z => ?_) z
    cases c with
    | true => exact iteT (hg.mono _ _ _ h (by rw [if_pos rfl] at z; exact z))
    | false => exact iteF (h _ _ (by rw [if_neg Bool.false_ne_true] at z; exact z))
  · intro Z O σ ε L H Q X z
    refine hf.run Z O σ ε L H _ X (hf.mono _ _ _ (fun c ε1 z => ?_) z)
    intro L1 H1 X1 e1
    cases c with
    | true =>
      rw [if_pos rfl] at z
      exact iteT (hg.run Z O σ ε1 L1 H1 _ X1 (hg.mono _ _ _ (fun b ε2 z L2 H2 X2 e2 => z L2 H2 X2 (e1.trans e2)) z))
    | false =>
      rw [if_neg Bool.false_ne_true] at z
      exact iteF (z L1 H1 X1 e1)
theorem st_or (hf : ST w t p) (hg : ST w u q) : ST w (tOr t u) (dOr p q) := by
  constructor
  · intro ε A B h z
    refine hf.mono _ _ _ (fun c ε1 z => ?_) z
    cases c with
    | false => exact iteF (hg.mono _ _ _ h (by rw [if_neg Bool.false_ne_true] at z; exact z))
    | true => exact iteT (h _ _ (by rw [if_pos rfl] at z; exact z))
  · intro Z O σ ε L H Q X z
    refine hf.run Z O σ ε L H _ X (hf.mono _ _ _ (fun c ε1 z => ?_) z)
    intro L1 H1 X1 e1
    cases c with
    | false =>
      rw [if_neg Bool.false_ne_true] at z
      exact iteF (hg.run Z O σ ε1 L1 H1 _ X1 (hg.mono _ _ _ (fun b ε2 z L2 H2 X2 e2 => z L2 H2 X2 (e1.trans e2)) z))
    | true =>
      rw [if_pos rfl] at z
      exact iteT (z L1 H1 X1 e1)
theorem st_not (hf : ST w t p) : ST w (tNot t) (dNot p) := by
  constructor
  · intro ε A B h z
    exact hf.mono _ _ _ (fun c ε1 z => h _ _ z) z
  · intro Z O σ ε L H Q X z
    exact hf.run Z O σ ε L H _ X z
def dYes  (ε : Env) (Q : Bool → Env → Prop) : Prop := Q true ε
theorem st_yes : ST w tYes dYes := ⟨fun ε A B h q => h _ _ q, fun Z O σ ε L H Q X z => z L H X (Ext.refl _ _ _)⟩
def dIf (c : DTT) (f g : DTE)  (ε : Env) (Q : R → Env → Prop) : Prop := c ε fun b ε1 => if b = true then f ε1 Q else g ε1 Q
theorem se_if (hc : ST w t p) (hf : SE w ta f) (hg : SE w tb g) : SE w (tIf t ta tb) (dIf p f g) := by
  constructor
  · intro ε A B h z
    refine hc.mono _ _ _ (fun c ε1 z => ?_) z
    cases c with
    | false => exact iteF (hg.mono _ _ _ h (by rw [if_neg Bool.false_ne_true] at z; exact z))
    | true => exact iteT (hf.mono _ _ _ h (by rw [if_pos rfl] at z; exact z))
  · intro Z O σ ε L H Q X z
    refine hc.run Z O σ ε L H _ X (hc.mono _ _ _ (fun c ε1 z => ?_) z)
    intro L1 H1 X1 e1
    cases c with
    | false =>
      rw [if_neg Bool.false_ne_true] at z
      exact iteF (hg.run Z O σ ε1 L1 H1 _ X1 (hg.mono _ _ _ (fun b ε2 z v L2 H2 X2 e2 r => z v L2 H2 X2 (e1.trans e2) (r.back e1)) z))
    | true =>
      rw [if_pos rfl] at z
      exact iteT (hf.run Z O σ ε1 L1 H1 _ X1 (hf.mono _ _ _ (fun b ε2 z v L2 H2 X2 e2 r => z v L2 H2 X2 (e1.trans e2) (r.back e1)) z))
def dAndV (f g : DTE)  (ε : Env) (Q : R → Env → Prop) : Prop := f ε fun r ε1 => match r.dat with
  | some (.bool k) => if k = true then g ε1 Q else Q (.sh (.bool false)) ε1
  | _ => False
def dOrV (f g : DTE)  (ε : Env) (Q : R → Env → Prop) : Prop := f ε fun r ε1 => match r.dat with
  | some (.bool k) => if k = true then Q (.sh (.bool true)) ε1 else g ε1 Q
  | _ => False
def dNotV (f : DTE)  (ε : Env) (Q : R → Env → Prop) : Prop := f ε fun r ε1 => match r.dat with
  | some (.bool b) => Q (.sh (.bool (!b))) ε1
  | _ => False
/-- a op b op' c -/
def dChain (φ ψ : PyData → PyData → (R → Prop) → Prop) (f g h : DTE)  (ε : Env) (Q : R → Env → Prop) : Prop := f ε fun x ε1 => g ε1 fun y ε2 => match x.dat, y.dat with
  | some dx, some dy => φ dx dy fun r => match r with
    | .sh (.bool k) => if k = true then (h ε2 fun z ε3 => match z.dat with
      | some dz => ψ dy dz fun r => Q r ε3
      | _ => False) else Q (.sh (.bool false)) ε2
    | _ => False
  | _, _ => False
theorem se_chain {r s : R2} {φ ψ : PyData → PyData → (R → Prop) → Prop} (k : R2K r φ) (l : R2K s ψ) (hf : SE w ta f) (hg : SE w tb g) (hh : SE w tc h) : SE w (tChain r s ta tb tc) (dChain φ ψ f g h) := by
  constructor
  · intro ε A B hAB q
    refine hf.mono _ _ _ (fun x ε1 q => hg.mono _ _ _ (fun y ε2 q => ?_) q) q
    split at q
    · refine k.mono _ _ _ _ (fun r q => ?_) q
      split at q
      · rename_i k0
        cases k0 with
        | true =>
          rw [if_pos rfl] at q
          refine iteT (hh.mono _ _ _ (fun z ε3 q => ?_) q)
          split at q
          · exact l.mono _ _ _ _ (fun r q => hAB _ _ q) q
          · exact q.elim
        | false =>
          rw [if_neg Bool.false_ne_true] at q
          exact iteF (hAB _ _ q)
      · exact q.elim
    · exact q.elim
  · intro Z O σ ε L H Q X q
    refine hf.run Z O σ ε L H _ X (hf.mono _ _ _ (fun x ε1 q => ?_) q)
    intro v L1 H1 X1 e1 r1
    refine hg.run Z O σ ε1 L1 H1 _ X1 (hg.mono _ _ _ (fun y ε2 q => ?_) q)
    intro u L2 H2 X2 e2 r2
    have r1' := r1.mono X1 e2
    split at q
    · rename_i dx dy ex ey
      refine k.run L2 H2 v u dx dy _ X2.lh (r1'.vl ex) (r2.vl ey) (k.mono _ _ _ _ (fun r q => ?_) q)
      intro z L3 H3 e3 s3 r3
      have X3 := X2.step e3 s3
      have r2' := r2.mono X2 e3.any
      split at q
      · rename_i k0
        cases (show DV L3 z (.bool k0) from r3)
        cases k0 with
        | true =>
          rw [if_pos rfl] at q
          refine ⟨true, rfl, iteT ?_⟩
          refine hh.run Z O σ ε2 L3 H3 _ X3 (hh.mono _ _ _ (fun c ε3 q => ?_) q)
          intro z' L4 H4 X4 e4 r4
          split at q
          · rename_i dz ez
            refine l.run L4 H4 u z' dy dz Q X4.lh ((r2'.mono X3 e4).vl ey) (r4.vl ez) (l.mono _ _ _ _ (fun r q => ?_) q)
            intro o L5 H5 e5 s5 r5
            have et := ((e1.trans e2).trans e3.any).trans e4
            exact q o L5 H5 (X4.step e5 s5) (et.trans e5.any) ((r5.vr X4).back et)
          · exact q.elim
        | false =>
          rw [if_neg Bool.false_ne_true] at q
          exact ⟨false, rfl, iteF (q _ L3 H3 X3 ((e1.trans e2).trans e3.any) (.bl false))⟩
      · exact q.elim
    · exact q.elim
def R.pub : R → R
  | .nw ds => .sh (.list ds)
  | r => r
theorem R.pub_nw (r : R) (ds : List PyData) : r.pub ≠ .nw ds := by
  cases r <;> exact fun h => nomatch h
theorem publ {Z : Zx} {O : Addr → Prop} {σ : L2.St} {ε : Env} {L H L' H' : Hp} {v : V} {r : R} (x : Rep w Z O L' H' σ ε) (e : Ext Z.b L H L' H') (h : VR w Z O σ H L' H' v r) : ∃ L2, Rep w Z O L2 H' σ ε ∧ Ext Z.b L H L2 H' ∧ VR w Z O σ H L2 H' v r.pub := by
  cases r with
  | nw ds =>
    obtain ⟨L2, h1, h2, h3⟩ := Lp.pub x e h
    exact ⟨L2, h1, h2, h3⟩
  | _ => exact ⟨L', x, e, h⟩
def dNil  (ε : Env) (Q : List R → Env → Prop) : Prop := Q [] ε
def dCons (f : DTE) (g : DTA)  (ε : Env) (Q : List R → Env → Prop) : Prop := f ε fun r ε1 => g ε1 fun rs ε2 => Q (r.pub :: rs) ε2
theorem sa_nil : SA w 0 tNil dNil := ⟨fun ε A B h q => h _ _ q, fun Z O σ ε L H Q X z => z _ L H X (Ext.refl _ _ _) .nil rfl (fun _ h => nomatch h)⟩
theorem sa_cons {n : Nat} {tr : TA} {g : DTA} (hf : SE w ta f) (hg : SA w n tr g) : SA w (n + 1) (tCons ta tr) (dCons f g) := by
  constructor
  · intro ε A B h z
    exact hf.mono _ _ _ (fun r ε1 z => hg.mono _ _ _ (fun rs ε2 z => h _ _ z) z) z
  · intro Z O σ ε L H Q X z
    refine hf.run Z O σ ε L H _ X (hf.mono _ _ _ (fun r ε1 z => ?_) z)
    intro v L1 H1 X1 e1 r1
    obtain ⟨L1', X1', e1', r1'⟩ := publ X1 e1 r1
    refine hg.run Z O σ ε1 L1' H1 _ X1' (hg.mono _ _ _ (fun rs ε2 z => ?_) z)
    intro vs L2 H2 X2 e2 rs2 hl np
    refine z (v :: vs) L2 H2 X2 (e1'.trans e2) (.cons (r1'.mono X1' e2) (rs2.back e1')) (by rw [List.length_cons, hl]) (fun x hx ds => ?_)
    rcases List.mem_cons.mp hx with rfl | hx
    · exact R.pub_nw r ds
    · exact np x hx ds
/-- all of them data that stands still -/
def shs : List R → Option (List PyData)
  | [] => some []
  | .sh d :: rs => match shs rs with
    | some ds => some (d :: ds)
    | none => none
  | _ => none
theorem shs_ok {Z : Zx} {O : Addr → Prop} {σ : L2.St} {Hs L H : Hp} : ∀ {rs : List R} {vs : List V} {ds : List PyData}, VRs w Z O σ Hs L H vs rs → shs rs = some ds → DVs L vs ds
  | [], _, _, .nil, e => by cases e; exact .nil
  | .sh d :: rs, _, ds, .cons a r, e => by
    unfold shs at e
    split at e
    · rename_i es h
      cases e
      exact .cons a (shs_ok r h)
    · cases e
  | .nw _ :: _, _, _, .cons _ _, e => by cases e
  | .br _ _ :: _, _, _, .cons _ _, e => by cases e
  | .bx :: _, _, _, .cons _ _, e => by cases e
  | .raw _ :: _, _, _, .cons _ _, e => by cases e
  | .sr _ _ _ :: _, _, _, .cons _ _, e => by cases e
  | .exn _ :: _, _, _, .cons _ _, e => by cases e
  | .dnw _ :: _, _, _, .cons _ _, e => by cases e
  | .dbr _ _ :: _, _, _, .cons _ _, e => by cases e
  | .srt _ _ :: _, _, _, .cons _ _, e => by cases e
  | .dsh _ :: _, _, _, .cons _ _, e => by cases e
def dTup (f : DTA)  (ε : Env) (Q : R → Env → Prop) : Prop := f ε fun rs ε1 => match shs rs with
  | some ds => Q (.sh (.tuple ds)) ε1
  | none => False
def dLst (f : DTA)  (ε : Env) (Q : R → Env → Prop) : Prop := f ε fun rs ε1 => match shs rs with
  | some ds => Q (.nw ds) ε1
  | none => False
theorem se_tup {n : Nat} {t : TA} {f : DTA} (hf : SA w n t f) (hn : n ≤ sizeLine := by decide) : SE w (tTupS t) (dTup f) := by
  constructor
  · intro ε A B h z
    refine hf.mono _ _ _ (fun rs ε1 z => ?_) z
    split at z
    · exact h _ _ z
    · exact z.elim
  · intro Z O σ ε L H Q X z
    refine hf.run Z O σ ε L H _ X (hf.mono _ _ _ (fun rs ε1 z => ?_) z)
    intro vs L1 H1 X1 e1 r1 hl np
    split at z
    · rename_i ds hd
      refine ⟨by rw [r1.len, hl]; exact hn, fun p o np no => ?_⟩
      have e2 : Ext none L1 H1 (upd L1 p (.frz o (.tup vs))) (upd H1 p (.frz o (.tup vs))) := Ext.new X1.lh np
      exact z _ _ _ (X1.step e2 (same_both X1.lh)) (e1.trans e2.any) (.tup ⟨o, no, upd_same⟩ ((shs_ok r1 hd).to e2.ll))
    · exact z.elim
theorem se_lst {n : Nat} {t : TA} {f : DTA} (hf : SA w n t f) (hn : n ≤ sizeLine := by decide) : SE w (tLst t) (dLst f) := by
  constructor
  · intro ε A B h z
    refine hf.mono _ _ _ (fun rs ε1 z => ?_) z
    split at z
    · exact h _ _ z
    · exact z.elim
  · intro Z O σ ε L H Q X z
    refine hf.run Z O σ ε L H _ X (hf.mono _ _ _ (fun rs ε1 z => ?_) z)
    intro vs L1 H1 X1 e1 r1 hl np
    split at z
    · rename_i ds hd
      refine ⟨by rw [r1.len, hl]; exact hn, fun p np => ?_⟩
      have e2 : Ext none L1 H1 L1 (upd H1 p (.lst vs)) := Ext.own np
      refine z _ _ _ (X1.step e2 (same_own X1.lh (X1.lh.free np))) (e1.trans e2.any) (VR.back (VR0.vr (r := .nw ds) ⟨p, vs, rfl, np, X1.lh.free np, upd_same, shs_ok r1 hd⟩ X1) e1)
    · exact z.elim
def dats : List R → Option (List PyData)
  | [] => some []
  | r :: rs => match r.dat, dats rs with
    | some d, some ds => some (d :: ds)
    | _, _ => none
inductive VLs (L H : Hp) : List V → List PyData → Prop
  | nil : VLs L H [] []
  | cons {v : V} {vs : List V} {d : PyData} {ds : List PyData} : VL L H v d → VLs L H vs ds → VLs L H (v :: vs) (d :: ds)
theorem dats_ok {Z : Zx} {O : Addr → Prop} {σ : L2.St} {Hs L H : Hp} : ∀ {rs : List R} {vs : List V} {ds : List PyData}, VRs w Z O σ Hs L H vs rs → dats rs = some ds → VLs L H vs ds
  | [], _, _, .nil, e => by cases e; exact .nil
  | r :: rs, _, ds, .cons a b, e => by
    unfold dats at e
    split at e
    · rename_i d es h1 h2
      cases e
      exact .cons (a.vl h1) (dats_ok b h2)
    · cases e
structure RCK (r : List V → Hp → VK → Prop) (φ : List PyData → (R → Prop) → Prop) : Prop where
  mono : ∀ x (A B : R → Prop), (∀ r, A r → B r) → φ x A → φ x B
  run : ∀ (L H : Hp) (xs : List V) (ds : List PyData) (Q : VK), Same L H → VLs L H xs ds → φ ds (fun r => ∀ v L' H', Ext none L H L' H' → Same L' H' → VR0 H L' H' v r → Q v H') → r xs H Q
def dCB (φ : List PyData → (R → Prop) → Prop) (f : DTA)  (ε : Env) (Q : R → Env → Prop) : Prop := f ε fun rs ε1 => match dats rs with
  | some ds => φ ds fun r => Q r ε1
  | _ => False
theorem se_cb {n : Nat} {t : TA} {f : DTA} {r : List V → Hp → VK → Prop} {φ : List PyData → (R → Prop) → Prop} (k : RCK r φ) (hf : SA w n t f) : SE w (tCB r t) (dCB φ f) := by
  constructor
  · intro ε A B h z
    refine hf.mono _ _ _ (fun rs ε1 z => ?_) z
    split at z
    · exact k.mono _ _ _ (fun r q => h _ _ q) z
    · exact z.elim
  · intro Z O σ ε L H Q X z
    refine hf.run Z O σ ε L H _ X (hf.mono _ _ _ (fun rs ε1 z => ?_) z)
    intro vs L1 H1 X1 e1 r1 hl np
    split at z
    · rename_i ds hd
      refine k.run L1 H1 vs ds Q X1.lh (dats_ok r1 hd) (k.mono _ _ _ (fun r q => ?_) z)
      intro z L3 H3 e3 s3 r3
      exact q z L3 H3 (X1.step e3 s3) (e1.trans e3.any) ((r3.vr X1).back e1)
    · exact z.elim
abbrev DTO := Env → (Option Int → Env → Prop) → Prop
structure SO (w : Wx) (t : TO) (f : DTO) : Prop where
  mono : ∀ ε (A B : Option Int → Env → Prop), (∀ r ε', A r ε' → B r ε') → f ε A → f ε B
  run : ∀ (Z : Zx) (O : Addr → Prop) (σ : L2.St) (ε : Env) (L H : Hp) (Q : Option Int → Hp → Prop), Rep w Z O L H σ ε → f ε (fun b ε' => ∀ L' H', Rep w Z O L' H' σ ε' → Ext Z.b L H L' H' → Q b H') → t σ H Q
def dNoP  (ε : Env) (Q : Option Int → Env → Prop) : Prop := Q none ε
def dPart (f : DTE)  (ε : Env) (Q : Option Int → Env → Prop) : Prop := f ε fun r ε1 => match r.dat with
  | some (.int i) => Q (some i) ε1
  | _ => False
theorem so_none : SO w tNoPart dNoP := ⟨fun ε A B h q => h _ _ q, fun Z O σ ε L H Q X z => z L H X (Ext.refl _ _ _)⟩
theorem so_some (hf : SE w ta f) : SO w (tPart ta) (dPart f) := by
  constructor
  · intro ε A B h q
    refine hf.mono _ _ _ (fun r ε1 q => ?_) q
    split at q
    · exact h _ _ q
    · exact q.elim
  · intro Z O σ ε L H Q X q
    refine hf.run Z O σ ε L H _ X (hf.mono _ _ _ (fun r ε1 q => ?_) q)
    intro v L1 H1 X1 e1 r1
    split at q
    · rename_i k ek
      exact ⟨k, (r1.vl ek).int, q L1 H1 X1 e1⟩
    · exact q.elim
structure RSK (r : V → Option Int → Option Int → Hp → VK → Prop) (φ : PyData → Option Int → Option Int → (R → Prop) → Prop) : Prop where
  mono : ∀ x l h (A B : R → Prop), (∀ r, A r → B r) → φ x l h A → φ x l h B
  run : ∀ (L H : Hp) (x : V) (d : PyData) (l h : Option Int) (Q : VK), Same L H → VL L H x d → φ d l h (fun r => ∀ v L' H', Ext none L H L' H' → Same L' H' → VR0 H L' H' v r → Q v H') → r x l h H Q
def dSl (φ : PyData → Option Int → Option Int → (R → Prop) → Prop) (f : DTE) (l h : DTO)  (ε : Env) (Q : R → Env → Prop) : Prop := f ε fun r ε1 => l ε1 fun i ε2 => h ε2 fun j ε3 => match r.dat with
  | some d => φ d i j fun r => Q r ε3
  | _ => False
theorem se_sl {r : V → Option Int → Option Int → Hp → VK → Prop} {φ : PyData → Option Int → Option Int → (R → Prop) → Prop} {tl th : TO} {l h : DTO} (k : RSK r φ) (hf : SE w ta f) (hl : SO w tl l) (hh : SO w th h) : SE w (tSl r ta tl th) (dSl φ f l h) := by
  constructor
  · intro ε A B hAB z
    refine hf.mono _ _ _ (fun r ε1 z => hl.mono _ _ _ (fun i ε2 z => hh.mono _ _ _ (fun j ε3 z => ?_) z) z) z
    split at z
    · exact k.mono _ _ _ _ _ (fun r q => hAB _ _ q) z
    · exact z.elim
  · intro Z O σ ε L H Q X z
    refine hf.run Z O σ ε L H _ X (hf.mono _ _ _ (fun r ε1 z => ?_) z)
    intro v L1 H1 X1 e1 r1
    refine hl.run Z O σ ε1 L1 H1 _ X1 (hl.mono _ _ _ (fun i ε2 z => ?_) z)
    intro L2 H2 X2 e2
    refine hh.run Z O σ ε2 L2 H2 _ X2 (hh.mono _ _ _ (fun j ε3 z => ?_) z)
    intro L3 H3 X3 e3
    have r3 := (r1.mono X1 e2).mono X2 e3
    split at z
    · rename_i d hd
      have et := (e1.trans e2).trans e3
      refine k.run L3 H3 v d i j Q X3.lh (r3.vl hd) (k.mono _ _ _ _ _ (fun r q => ?_) z)
      intro z L4 H4 e4 s4 r4
      exact q z L4 H4 (X3.step e4 s4) (et.trans e4.any) ((r4.vr X3).back et)
    · exact z.elim
end
end Lp

namespace Lp
open PySem PySem.Spec PyProof.Rows L2
structure DEnds where
  nx : Env → Prop
  rt : R → Env → Prop
  bk : Env → Prop := fun _ => False
  ct : Env → Prop := fun _ => False
structure DEnds.le (A B : DEnds) : Prop where
  nx : ∀ ε, A.nx ε → B.nx ε
  rt : ∀ r ε, A.rt r ε → B.rt r ε
  bk : ∀ ε, A.bk ε → B.bk ε
  ct : ∀ ε, A.ct ε → B.ct ε
theorem DEnds.le.refl (A : DEnds) : A.le A := ⟨fun _ h => h, fun _ _ h => h, fun _ h => h, fun _ h => h⟩
abbrev DTS := DEnds → Env → Prop
structure EndsOk (w : Wx) (Z : Zx) (D : Ends) (Δ : DEnds) : Prop where
  nx : ∀ (O : Addr → Prop) (σ : L2.St) (ε : Env) (L H : Hp), Rep w Z O L H σ ε → Δ.nx ε → D.nx σ H
  rt : ∀ (O : Addr → Prop) (σ : L2.St) (ε : Env) (L H : Hp) (v : V) (r : R), Rep w Z O L H σ ε → VR0 Z.H0 L H v r → Δ.rt r ε → D.rt v H
  bk : ∀ (O : Addr → Prop) (σ : L2.St) (ε : Env) (L H : Hp), Rep w Z O L H σ ε → Δ.bk ε → D.bk σ H
  ct : ∀ (O : Addr → Prop) (σ : L2.St) (ε : Env) (L H : Hp), Rep w Z O L H σ ε → Δ.ct ε → D.ct σ H
structure SS (w : Wx) (t : TS) (f : DTS) : Prop where
  mono : ∀ Δ Δ' ε, DEnds.le Δ Δ' → f Δ ε → f Δ' ε
  run : ∀ (Z : Zx) (O : Addr → Prop) (σ : L2.St) (ε : Env) (L H : Hp) (D : Ends) (Δ : DEnds), Rep w Z O L H σ ε → EndsOk w Z D Δ → f Δ ε → t D σ H
section
variable {w : Wx} {Z : Zx} {O : Addr → Prop} {σ : L2.St} {ε : Env} {L H : Hp}
theorem get_set {α : Type} {l : List α} {i j : Nat} {x y : α} (h : (l.set i x)[j]? = some y) : (i = j ∧ y = x ∧ j < l.length) ∨ (i ≠ j ∧ l[j]? = some y) := by
  rw [List.getElem?_set] at h
  split at h
  · rename_i e
    subst e
    split at h
    · cases h; exact .inl ⟨rfl, rfl, by assumption⟩
    · cases h
  · rename_i e
    exact .inr ⟨e, h⟩
/-- a slot takes a value -/
theorem Rep.put0 (x : Rep w Z O L H σ ε) {i : Nat} {v : V} {y : SV} (O' : Addr → Prop) (ho : ∀ a, O a → O' a) (hn : ∀ a, O' a → H a ≠ none ∧ Z.H0 a = none) (h : SlotR w Z O' L H (some v) y) (hd : Own y = true → ∀ a, v = .ref a → ¬ O a) : Rep w Z O' L H (σ.set i (some v)) (ε.set i y) := by
  have own : ∀ (j : Nat) (z : SV) (a : Addr), ε.s[j]? = some z → Own z = true → σ[j]? = some (some (.ref a)) → O a := by
    intro j z a hz ho ha
    obtain ⟨o, h1, h2⟩ := x.sl j z hz
    rw [ha] at h1
    cases h1
    cases z with
    | ow ds => obtain ⟨b, xs, e, h3, _⟩ := h2; cases e; exact h3
    | st S n => obtain ⟨b, e, h3, _⟩ := h2; cases e; exact h3
    | dco xs => obtain ⟨b, e, h3, _⟩ := h2; cases e; exact h3
    | sto M => obtain ⟨b, A, e, h3, _⟩ := h2; cases e; exact h3
    | _ => cases ho
  refine ⟨x.lh, x.pn, x.ex, x.bo, hn, ?_, fun j z hz => ?_, fun j k z z' a hjk hz hz' oz oz' hj hk => ?_, x.ph⟩
  · show (σ.set i (some v)).length = (ε.s.set i y).length
    rw [List.length_set, List.length_set]; exact x.len
  · rcases get_set hz with ⟨rfl, rfl, hl⟩ | ⟨ne, hz⟩
    · refine ⟨some v, ?_, h⟩
      rw [List.getElem?_set, if_pos rfl, if_pos (by rw [x.len]; exact hl)]
    · obtain ⟨o, h1, h2⟩ := x.sl j z hz
      refine ⟨o, by rw [List.getElem?_set, if_neg ne]; exact h1, ?_⟩
      cases z with
      | ow ds => obtain ⟨a, xs, e1, e2, e3⟩ := h2; exact ⟨a, xs, e1, ho a e2, e3⟩
      | st S n => obtain ⟨a, e1, e2, e3⟩ := h2; exact ⟨a, e1, ho a e2, e3⟩
      | dco xs => obtain ⟨a, e1, e2, e3⟩ := h2; exact ⟨a, e1, ho a e2, e3⟩
      | sto M => obtain ⟨a, A, e1, e2, e3⟩ := h2; exact ⟨a, A, e1, ho a e2, e3⟩
      | _ => exact h2
  · rcases get_set hz with ⟨rfl, rfl, hl⟩ | ⟨ne, hz1⟩
    · rcases get_set hz' with ⟨rfl, _, _⟩ | ⟨ne', hz'⟩
      · exact hjk rfl
      · rw [List.getElem?_set, if_pos rfl, if_pos (by rw [x.len]; exact hl)] at hj
        rw [List.getElem?_set, if_neg ne'] at hk
        exact hd oz a (Option.some.inj (Option.some.inj hj)) (own k z' a hz' oz' hk)
    · rw [List.getElem?_set, if_neg ne] at hj
      rcases get_set hz' with ⟨e1, e2, hl⟩ | ⟨ne', hz2⟩
      · subst e1
        subst e2
        rw [List.getElem?_set, if_pos rfl, if_pos (by rw [x.len]; exact hl)] at hk
        exact hd oz' a (Option.some.inj (Option.some.inj hk)) (own j z a hz1 oz hj)
      · rw [List.getElem?_set, if_neg ne'] at hk
        exact x.di j k z z' a hjk hz1 hz2 oz oz' hj hk
theorem Rep.sh (x : Rep w Z O L H σ ε) {i : Nat} {v : V} {d : PyData} (h : DV L v d) : Rep w Z O L H (σ.set i (some v)) (ε.set i (.sh d)) :=
  x.put0 O (fun _ h => h) x.oh ⟨v, rfl, h⟩ (fun z => nomatch z)
theorem Rep.exnS (x : Rep w Z O L H σ ε) {i : Nat} {v : V} {y : Xn} (h : XV w L v y) : Rep w Z O L H (σ.set i (some v)) (ε.set i (.exn y)) :=
  x.put0 O (fun _ h => h) x.oh ⟨v, rfl, h⟩ (fun z => nomatch z)
theorem Rep.rawS (x : Rep w Z O L H σ ε) {i : Nat} {v : V} : Rep w Z O L H (σ.set i (some v)) (ε.set i (.raw v)) :=
  x.put0 O (fun _ h => h) x.oh rfl (fun z => nomatch z)
theorem Rep.dsS (x : Rep w Z O L H σ ε) {i : Nat} {v : V} {xs : List DRow} (h : DVd L v xs) : Rep w Z O L H (σ.set i (some v)) (ε.set i (.dsh xs)) :=
  x.put0 O (fun _ h => h) x.oh ⟨v, rfl, h⟩ (fun e => nomatch e)
/-- an object that nobody holds is published -/
theorem Rep.pubO (x : Rep w Z O L H σ ε) {a : Addr} {o : HO} (h2 : ¬ O a) (h3 : Z.H0 a = none) (h4 : L a = none) (h5 : H a = some o) : Rep w Z O (upd L a o) H σ ε := by
  have s1 : Same L (upd L a o) := same_upd h4
  refine ⟨same_pub x.lh h5, x.pn.trans s1, ⟨x.ex.ll.trans s1, x.ex.hh, x.ex.dom, fun b hb hd => ?_⟩, fun b hb => ?_, x.oh, x.len, fun i y hy => ?_, x.di, x.ph⟩
  · rw [upd_ne (ne_at hd h3)]; exact x.ex.fr b hb hd
  · obtain ⟨q1, q2, q3⟩ := x.bo b hb
    exact ⟨by rw [upd_ne (ne_at q3 h3)]; exact q1, q2, q3⟩
  · obtain ⟨o, q1, q2⟩ := x.sl i y hy
    refine ⟨o, q1, ?_⟩
    cases y with
    | un => trivial
    | sh d =>
      obtain ⟨v, e1, e2⟩ := q2
      exact ⟨v, e1, e2.to s1⟩
    | ow ds =>
      obtain ⟨b, ys, e1, e2, e3, e4, e5, e6⟩ := q2
      exact ⟨b, ys, e1, e2, by rw [upd_ne (fun z => h2 (by rw [← z]; exact e2))]; exact e3, e4, e5, e6.to s1⟩
    | bx => exact q2
    | st S n =>
      obtain ⟨b, e1, e2, e3, e4, e5⟩ := q2
      exact ⟨b, e1, e2, by rw [upd_ne (fun z => h2 (by rw [← z]; exact e2))]; exact e3, e4, e5⟩
    | raw u => exact q2
    | exn x => obtain ⟨v, e1, e2⟩ := q2; exact ⟨v, e1, e2.to s1⟩
    | dco xs =>
      obtain ⟨b, e1, e2, e3, e4, e5, e6⟩ := q2
      exact ⟨b, e1, e2, by rw [upd_ne (fun z => h2 (by rw [← z]; exact e2))]; exact e3, e4, e5, e6.to s1⟩
    | sto M =>
      obtain ⟨b, A, e1, e2, e3, e4, e5, e6⟩ := q2
      exact ⟨b, A, e1, e2, by rw [upd_ne (fun z => h2 (by rw [← z]; exact e2))]; exact e3, e4, e5, e6.to s1⟩
    | dsh xs => obtain ⟨v, e1, e2⟩ := q2; exact ⟨v, e1, e2.to s1⟩
/-- what is stored of a value: own or for all to see -/
def val (own : Bool) : R → Option SV
  | .sh d => some (.sh d)
  | .nw ds => some (if own = true then .ow ds else .sh (.list ds))
  | .raw v => some (.raw v)
  | .exn x => some (.exn x)
  | .dnw xs => some (if own = true then .dco xs else .dsh xs)
  | .dsh xs => some (.dsh xs)
  | _ => none
/-- a new list at a -/
def nwAt (r : R) (v : V) (a : Addr) : Prop := ((∃ ds, r = .nw ds) ∨ ∃ xs, r = .dnw xs) ∧ v = .ref a
theorem Rep.put {Hs : Hp} (x : Rep w Z O L H σ ε) {i : Nat} {own : Bool} {v : V} {r : R} {y : SV} (h : VR w Z O σ Hs L H v r) (hy : val own r = some y) : ∃ O' L', Rep w Z O' L' H (σ.set i (some v)) (ε.set i y) ∧ Same L L' ∧ (∀ a, L a = none → ¬ nwAt r v a → L' a = none) ∧ ∀ a, O' a → O a ∨ nwAt r v a := by
  cases r with
  | sh d =>
    cases hy
    exact ⟨O, L, x.sh h, Same.refl L, fun a h _ => h, fun a h => .inl h⟩
  | nw ds =>
    cases own with
    | true =>
      cases hy
      obtain ⟨a, xs, rfl, h1, h2, h3, h4, h5, h6⟩ := h
      refine ⟨fun b => O b ∨ b = a, L, x.put0 (fun b => O b ∨ b = a) (fun b h => .inl h) (fun b hb => ?_) ⟨a, xs, rfl, .inr rfl, h4, h3, h5, h6⟩ (fun _ b e => by cases e; exact h2), Same.refl L, fun b h _ => h, fun b hb => hb.imp id fun z => ⟨.inl ⟨_, rfl⟩, by rw [z]⟩⟩
      rcases hb with hb | rfl
      · exact x.oh b hb
      · exact ⟨by rw [h5]; exact (fun z => nomatch z), h3⟩
    | false =>
      cases hy
      have h' := h
      obtain ⟨a, xs, rfl, h1, h2, h3, h4, h5, h6⟩ := h'
      have s1 : Same L (upd L a (.lst xs)) := same_upd h4
      obtain ⟨L2, X2, e2, d2⟩ : ∃ L2, Rep w Z O L2 H σ ε ∧ L2 = upd L a (.lst xs) ∧ DV L2 (.ref a) (.list ds) := by
        refine ⟨_, ⟨same_pub x.lh h5, x.pn.trans s1, ⟨x.ex.ll.trans s1, x.ex.hh, x.ex.dom, fun b hb hd => ?_⟩, fun b hb => ?_, x.oh, x.len, fun i y hy => ?_, x.di, x.ph⟩, rfl, .lst upd_same (h6.to s1)⟩
        · rw [upd_ne (ne_at hd h3)]; exact x.ex.fr b hb hd
        · obtain ⟨q1, q2, q3⟩ := x.bo b hb
          exact ⟨by rw [upd_ne (ne_at q3 h3)]; exact q1, q2, q3⟩
        · obtain ⟨o, q1, q2⟩ := x.sl i y hy
          refine ⟨o, q1, ?_⟩
          cases y with
          | un => trivial
          | sh d =>
            obtain ⟨v, e1, e2⟩ := q2
            exact ⟨v, e1, e2.to s1⟩
          | ow ds =>
            obtain ⟨b, ys, e1, e2, e3, e4, e5, e6⟩ := q2
            exact ⟨b, ys, e1, e2, by rw [upd_ne (fun z => h2 (by rw [← z]; exact e2))]; exact e3, e4, e5, e6.to s1⟩
          | bx => exact q2
          | st S n =>
            obtain ⟨b, e1, e2, e3, e4, e5⟩ := q2
            exact ⟨b, e1, e2, by rw [upd_ne (fun z => h2 (by rw [← z]; exact e2))]; exact e3, e4, e5⟩
          | raw u => exact q2
          | exn x => obtain ⟨v, e1, e2⟩ := q2; exact ⟨v, e1, e2.to s1⟩
          | dco xs =>
            obtain ⟨b, e1, e2, e3, e4, e5, e6⟩ := q2
            exact ⟨b, e1, e2, by rw [upd_ne (fun z => h2 (by rw [← z]; exact e2))]; exact e3, e4, e5, e6.to s1⟩
          | sto M =>
            obtain ⟨b, A, e1, e2, e3, e4, e5, e6⟩ := q2
            exact ⟨b, A, e1, e2, by rw [upd_ne (fun z => h2 (by rw [← z]; exact e2))]; exact e3, e4, e5, e6.to s1⟩
          | dsh xs => obtain ⟨v, e1, e2⟩ := q2; exact ⟨v, e1, e2.to s1⟩
      refine ⟨O, L2, X2.sh d2, by rw [e2]; exact s1, fun b hb nb => ?_, fun b hb => .inl hb⟩
      rw [e2, upd_ne (fun z => nb ⟨.inl ⟨_, rfl⟩, by rw [z]⟩)]; exact hb
  | raw u =>
    cases hy
    cases (show v = u from h)
    exact ⟨O, L, x.rawS, Same.refl L, fun a h _ => h, fun a h => .inl h⟩
  | exn y =>
    cases hy
    exact ⟨O, L, x.exnS h, Same.refl L, fun a h _ => h, fun a h => .inl h⟩
  | br i ds => cases hy
  | bx => cases hy
  | sr i S n => cases hy
  | dbr i xs => cases hy
  | srt i M => cases hy
  | dsh xs =>
    cases hy
    exact ⟨O, L, x.dsS h, Same.refl L, fun a h _ => h, fun a h => .inl h⟩
  | dnw xs =>
    cases own with
    | true =>
      cases hy
      obtain ⟨a, rfl, h1, h2, h3, h4, h5, h6⟩ := h
      refine ⟨fun b => O b ∨ b = a, L, x.put0 (fun b => O b ∨ b = a) (fun b h => .inl h) (fun b hb => ?_) ⟨a, rfl, .inr rfl, h4, h3, h5, h6⟩ (fun _ b e => by cases e; exact h2), Same.refl L, fun b h _ => h, fun b hb => hb.imp id fun z => ⟨.inr ⟨_, rfl⟩, by rw [z]⟩⟩
      rcases hb with hb | rfl
      · exact x.oh b hb
      · exact ⟨h5.ne, h3⟩
    | false =>
      cases hy
      obtain ⟨a, rfl, h1, h2, h3, h4, ⟨ob, h5⟩, h6⟩ := h
      have s1 : Same L (upd L a (DctO ob a xs)) := same_upd h4
      obtain ⟨L2, X2, e2, d2⟩ : ∃ L2, Rep w Z O L2 H σ ε ∧ L2 = upd L a (DctO ob a xs) ∧ DVd L2 (.ref a) xs :=
        ⟨_, x.pubO h2 h3 h4 h5, rfl, a, rfl, ⟨ob, upd_same⟩, h6.to s1⟩
      refine ⟨O, L2, X2.dsS d2, by rw [e2]; exact s1, fun b hb nb => ?_, fun b hb => .inl hb⟩
      rw [e2, upd_ne (fun z => nb ⟨.inr ⟨_, rfl⟩, by rw [z]⟩)]; exact hb
end
section
variable {w : Wx} {ta tb tc : TE} {f g h : DTE} {t u : TS} {p q : DTS}
def dNext  (Δ : DEnds) (ε : Env) : Prop := Δ.nx ε
theorem ss_next : SS w tNext dNext := ⟨fun _ _ ε l z => l.nx ε z, fun Z O σ ε L H D Δ X E z => E.nx O σ ε L H X z⟩
def dSeq (p q : DTS)  (Δ : DEnds) (ε : Env) : Prop := p { Δ with nx := q Δ } ε
theorem ss_seq (hp : SS w t p) (hq : SS w u q) : SS w (tSeq t u) (dSeq p q) :=
  ⟨fun Δ Δ' ε l z => hp.mono { Δ with nx := q Δ } _ ε ⟨fun ε z => hq.mono _ _ ε l z, l.rt, l.bk, l.ct⟩ z,
   fun Z O σ ε L H D Δ X E z => hp.run Z O σ ε L H _ { Δ with nx := q Δ } X ⟨fun O σ ε L H X z => hq.run Z O σ ε L H D Δ X E z, E.rt, E.bk, E.ct⟩ z⟩
def dBreak  (Δ : DEnds) (ε : Env) : Prop := Δ.bk ε
def dCont  (Δ : DEnds) (ε : Env) : Prop := Δ.ct ε
def dNever  (_ : DEnds) (_ : Env) : Prop := False
theorem ss_never : SS w tNever dNever := ⟨fun _ _ _ _ z => z, fun Z O σ ε L H D Δ X E z => z⟩
def dDrop (f : DTE)  (Δ : DEnds) (ε : Env) : Prop := f ε fun _ ε1 => Δ.nx ε1
theorem ss_drop (hf : SE w ta f) : SS w (tDrop ta) (dDrop f) :=
  ⟨fun Δ Δ' ε l z => hf.mono _ _ _ (fun _ ε1 z => l.nx ε1 z) z,
   fun Z O σ ε L H D Δ X E z => hf.run Z O σ ε L H _ X (hf.mono _ _ _ (fun _ ε1 z v L1 H1 X1 e1 r1 => E.nx O σ ε1 L1 H1 X1 z) z)⟩
def R.ret : R → Option R
  | .sh d => some (.sh d)
  | .nw ds => some (.nw ds)
  | .br _ ds => some (.nw ds)
  | .dnw xs => some (.dnw xs)
  | .dbr _ xs => some (.dnw xs)
  | .dsh xs => some (.dsh xs)
  | _ => none
def dRet (f : DTE)  (Δ : DEnds) (ε : Env) : Prop := f ε fun r ε1 => match r.ret with
  | some r => Δ.rt r ε1
  | none => False
theorem VR.ret {Z : Zx} {O : Addr → Prop} {σ : L2.St} {Hs L H : Hp} {v : V} {r r' : R} (x : VR w Z O σ Hs L H v r) (e : r.ret = some r') : VR0 Z.H0 L H v r' := by
  cases r with
  | sh d => cases e; exact x
  | nw ds =>
    cases e
    obtain ⟨a, xs, rfl, h1, h2, h3, h4, h5, h6⟩ := x
    exact ⟨a, xs, rfl, h3, h4, h5, h6⟩
  | br i ds =>
    cases e
    obtain ⟨a, xs, rfl, h1, h2, h3, h4, h5, h6⟩ := x
    exact ⟨a, xs, rfl, h3, h4, h5, h6⟩
  | bx => cases e
  | raw u => cases e
  | sr i S n => cases e
  | exn y => cases e
  | dnw xs =>
    cases e
    obtain ⟨a, rfl, h1, h2, h3, h4, h5, h6⟩ := x
    exact ⟨a, rfl, h3, h4, h5, h6⟩
  | dbr i xs =>
    cases e
    obtain ⟨a, rfl, h1, h2, h3, h4, h5, h6⟩ := x
    exact ⟨a, rfl, h3, h4, h5, h6⟩
  | srt i M => cases e
  | dsh xs => cases e; exact x
theorem ss_ret (hf : SE w ta f) : SS w (tRet ta) (dRet f) := by
  constructor
  · intro Δ Δ' ε l z
    refine hf.mono _ _ _ (fun r ε1 z => ?_) z
    split at z
    · exact l.rt _ _ z
    · exact z.elim
  · intro Z O σ ε L H D Δ X E z
    refine hf.run Z O σ ε L H _ X (hf.mono _ _ _ (fun r ε1 z => ?_) z)
    intro v L1 H1 X1 e1 r1
    split at z
    · rename_i r' hr
      exact E.rt O σ ε1 L1 H1 v r' X1 (r1.ret hr) z
    · exact z.elim
def dRetN  (Δ : DEnds) (ε : Env) : Prop := Δ.rt (.sh .none) ε
def dIfS (c : DTT) (p q : DTS)  (Δ : DEnds) (ε : Env) : Prop := c ε fun b ε1 => if b = true then p Δ ε1 else q Δ ε1
theorem ss_if {c : TT} {k : DTT} (hc : ST w c k) (hp : SS w t p) (hq : SS w u q) : SS w (tIfS c t u) (dIfS k p q) := by
  constructor
  · intro Δ Δ' ε l z
    refine hc.mono _ _ _ (fun b ε1 z => ?_) z
    cases b with
    | true => exact iteT (hp.mono _ _ _ l (by rw [if_pos rfl] at z; exact z))
    | false => exact iteF (hq.mono _ _ _ l (by rw [if_neg Bool.false_ne_true] at z; exact z))
  · intro Z O σ ε L H D Δ X E z
    refine hc.run Z O σ ε L H _ X (hc.mono _ _ _ (fun b ε1 z => ?_) z)
    intro L1 H1 X1 e1
    cases b with
    | true => exact iteT (hp.run Z O σ ε1 L1 H1 D Δ X1 E (by rw [if_pos rfl] at z; exact z))
    | false => exact iteF (hq.run Z O σ ε1 L1 H1 D Δ X1 E (by rw [if_neg Bool.false_ne_true] at z; exact z))
def dSetG (own : Bool) (i : Nat) (f : DTE)  (Δ : DEnds) (ε : Env) : Prop := f ε fun r ε1 => match val own r with
  | some x => Δ.nx (ε1.set i x)
  | none => False
theorem ss_set (own : Bool) {i : Nat} (hf : SE w ta f) : SS w (tAsg ta (gName i)) (dSetG own i f) := by
  constructor
  · intro Δ Δ' ε l z
    refine hf.mono _ _ _ (fun r ε1 z => ?_) z
    split at z
    · exact l.nx _ z
    · exact z.elim
  · intro Z O σ ε L H D Δ X E z
    refine hf.run Z O σ ε L H _ X (hf.mono _ _ _ (fun r ε1 z => ?_) z)
    intro v L1 H1 X1 e1 r1
    split at z
    · rename_i x hx
      obtain ⟨O', L', X', _⟩ := X1.put (i := i) r1 hx
      exact E.nx O' _ _ L' H1 X' z
    · exact z.elim
def dPar (i : Nat) (oi : Bool) (j : Nat) (oj : Bool) (f g : DTE)  (Δ : DEnds) (ε : Env) : Prop := f ε fun x ε1 => g ε1 fun y ε2 => match val oi x, val oj y with
  | some a, some b => Δ.nx ((ε2.set i a).set j b)
  | _, _ => False
theorem VR.setσ {Z : Zx} {O O' : Addr → Prop} {σ σ' : L2.St} {Hs L L' H : Hp} {v : V} {r : R} (N : Addr → Prop) (x : VR w Z O σ Hs L H v r) {own : Bool} {y : SV} (hy : val own r = some y) (s : Same L L') (hl : ∀ a, L a = none → ¬ N a → L' a = none) (ho : ∀ a, O' a → O a ∨ N a) (hu : ∀ a, N a → Hs a ≠ none) : VR w Z O' σ' Hs L' H v r := by
  cases r with
  | sh d => exact DV.to x s
  | nw ds =>
    obtain ⟨a, xs, rfl, h1, h2, h3, h4, h5, h6⟩ := x
    have ne : ¬ N a := fun z => hu a z h1
    exact ⟨a, xs, rfl, h1, fun o => (ho a o).elim h2 ne, h3, hl a h4 ne, h5, h6.to s⟩
  | raw u => exact x
  | exn y => exact XV.to x s
  | br i ds => cases hy
  | bx => cases hy
  | sr i S n => cases hy
  | dbr i xs => cases hy
  | srt i M => cases hy
  | dsh xs => exact DVd.to s x
  | dnw xs =>
    obtain ⟨a, rfl, h1, h2, h3, h4, h5, h6⟩ := x
    have ne : ¬ N a := fun z => hu a z h1
    exact ⟨a, rfl, h1, fun o => (ho a o).elim h2 ne, h3, hl a h4 ne, h5, h6.to s⟩
theorem VR.nwAt {Z : Zx} {O : Addr → Prop} {σ : L2.St} {Hs L H : Hp} {v : V} {r : R} {a : Addr} (x : VR w Z O σ Hs L H v r) (e : Lp.nwAt r v a) : H a ≠ none := by
  obtain ⟨⟨ds, rfl⟩ | ⟨ys, rfl⟩, rfl⟩ := e
  · obtain ⟨b, xs, e, h1, h2, h3, h4, h5, h6⟩ := x
    cases e
    rw [h5]; exact fun z => nomatch z
  · obtain ⟨b, e, h1, h2, h3, h4, h5, h6⟩ := x
    cases e
    exact h5.ne
theorem two_put {Z : Zx} {O : Addr → Prop} {σ : L2.St} {ε : Env} {H L1 H1 L2 H2 : Hp} {v u : V} {x y : R} {oi oj : Bool} {i j : Nat} {a b : SV} (X2 : Rep w Z O L2 H2 σ ε) (r1 : VR w Z O σ H L1 H1 v x) (r1' : VR w Z O σ H L2 H2 v x) (r2 : VR w Z O σ H1 L2 H2 u y) (ha : val oi x = some a) (hb : val oj y = some b) :
    ∃ O' L', Rep w Z O' L' H2 ((σ.set i (some v)).set j (some u)) ((ε.set i a).set j b) ∧ Same L2 L' ∧ (∀ a, L2 a = none → ¬ (nwAt x v a ∨ nwAt y u a) → L' a = none) ∧ ∀ a, O' a → O a ∨ nwAt x v a ∨ nwAt y u a := by
  obtain ⟨O', L', X3, s3, hl3, ho3⟩ := X2.put (i := i) r1' ha
  have r2' : VR w Z O' (σ.set i (some v)) H1 L' H2 u y := r2.setσ (nwAt x v) hb s3 hl3 ho3 fun a ea => r1.nwAt ea
  obtain ⟨O2, L3, X4, s4, hl4, ho4⟩ := X3.put (i := j) r2' hb
  refine ⟨O2, L3, X4, s3.trans s4, fun a h n => hl4 a (hl3 a h (fun z => n (.inl z))) (fun z => n (.inr z)), fun a h => ?_⟩
  rcases ho4 a h with q | q
  · exact (ho3 a q).imp id .inl
  · exact .inr (.inr q)
theorem ss_par {i j : Nat} {oi oj : Bool} (hf : SE w ta f) (hg : SE w tb g) : SS w (tPar i j (tCons ta (tCons tb tNil))) (dPar i oi j oj f g) := by
  constructor
  · intro Δ Δ' ε l z
    refine hf.mono _ _ _ (fun x ε1 z => hg.mono _ _ _ (fun y ε2 z => ?_) z) z
    split at z
    · exact l.nx _ z
    · exact z.elim
  · intro Z O σ ε L H D Δ X E z
    refine hf.run Z O σ ε L H _ X (hf.mono _ _ _ (fun x ε1 z => ?_) z)
    intro v L1 H1 X1 e1 r1
    refine hg.run Z O σ ε1 L1 H1 _ X1 (hg.mono _ _ _ (fun y ε2 z => ?_) z)
    intro u L2 H2 X2 e2 r2
    split at z
    · rename_i a b ha hb
      obtain ⟨O', L', X', _⟩ := two_put (i := i) (j := j) X2 r1 (r1.mono X1 e2) r2 ha hb
      exact ⟨v, u, rfl, E.nx O' _ _ L' H2 X' z⟩
    · exact z.elim
/-- the same where the pair is made and taken apart -/
theorem ss_parT {K : PySem.W.Frag} {i j : Nat} {oi oj : Bool} (hf : SE w ta f) (hg : SE w tb g) : SS w (tAsg (tTupS (tCons ta (tCons tb tNil))) (gTup K 2 (gCons (gName i) (gCons (gName j) gNil)))) (dPar i oi j oj f g) := by
  constructor
  · exact (ss_par hf hg).mono
  · intro Z O σ ε L H D Δ X E z
    refine hf.run Z O σ ε L H _ X (hf.mono _ _ _ (fun x ε1 z => ?_) z)
    intro v L1 H1 X1 e1 r1
    refine hg.run Z O σ ε1 L1 H1 _ X1 (hg.mono _ _ _ (fun y ε2 z => ?_) z)
    intro u L2 H2 X2 e2 r2
    split at z
    · rename_i a b ha hb
      refine ⟨by show 2 ≤ sizeLine; decide, fun p o np no => ⟨p, _, rfl, Sol.seq ⟨o, no, upd_same⟩, rfl, v, _, rfl, u, _, rfl, rfl, ?_⟩⟩
      have e3 : Ext none L2 H2 L2 (upd H2 p (.frz o (.tup [v, u]))) := Ext.own np
      have X3 := X2.step e3 (same_own X2.lh (X2.lh.free np))
      obtain ⟨O', L', X', _⟩ := two_put (i := i) (j := j) X3 r1 ((r1.mono X1 e2).mono X2 e3.any) (r2.mono X2 e3.any) ha hb
      exact E.nx O' _ _ L' _ X' z
    · exact z.elim
def dPar3 (i : Nat) (oi : Bool) (j : Nat) (oj : Bool) (k : Nat) (ok : Bool) (f g h : DTE)  (Δ : DEnds) (ε : Env) : Prop := f ε fun x ε1 => g ε1 fun y ε2 => h ε2 fun z ε3 => match val oi x, val oj y, val ok z with
  | some a, some b, some c => Δ.nx (((ε3.set i a).set j b).set k c)
  | _, _, _ => False
end
end Lp

namespace Lp
open PySem PySem.Spec PyProof.Rows L2
section
variable {w : Wx} {Z : Zx} {O : Addr → Prop} {σ : L2.St} {ε : Env} {L H : Hp}
/-- the list of slot i changes -/
theorem Rep.mut (x : Rep w Z O L H σ ε) {i : Nat} {a : Addr} {y z : SV} {o : HO} (hi : ε.s[i]? = some y) (hy : Own y = true) (ha : σ[i]? = some (some (.ref a))) (h : SlotR w Z O L (upd H a o) (some (.ref a)) z) : Rep w Z O L (upd H a o) σ (ε.set i z) ∧ L a = none ∧ Z.H0 a = none ∧ O a := by
  obtain ⟨o1, h1, h2⟩ := x.sl i y hi
  rw [ha] at h1
  cases h1
  have key : O a ∧ L a = none ∧ Z.H0 a = none := by
    cases y with
    | ow ds => obtain ⟨b, xs, e, k1, k2, k3, _⟩ := h2; cases e; exact ⟨k1, k2, k3⟩
    | st S n => obtain ⟨b, e, k1, k2, k3, _⟩ := h2; cases e; exact ⟨k1, k2, k3⟩
    | dco xs => obtain ⟨b, e, k1, k2, k3, _⟩ := h2; cases e; exact ⟨k1, k2, k3⟩
    | sto M => obtain ⟨b, A, e, k1, k2, k3, _⟩ := h2; cases e; exact ⟨k1, k2, k3⟩
    | _ => cases hy
  obtain ⟨k1, k2, k3⟩ := key
  have nb : ∀ b, Z.b = some b → b ≠ a := fun b hb e => (x.bo b hb).2.2 (by rw [e]; exact k3)
  refine ⟨⟨same_own x.lh k2, x.pn, ⟨x.ex.ll, fun b u hb nb => ?_, fun b hb => ?_, x.ex.fr⟩, fun b hb => ?_, fun b hb => ⟨?_, (x.oh b hb).2⟩, ?_, fun j u hu => ?_, fun j k u u' b hjk hu hu' ou ou' => ?_, x.ph⟩, k2, k3, k1⟩
  · rw [upd_ne (ne_of_none hb k3)]; exact x.ex.hh b u hb nb
  · by_cases q : b = a
    · rw [q, upd_same]; exact fun z => nomatch z
    · rw [upd_ne q]; exact x.ex.dom b hb
  · obtain ⟨q1, q2, q3⟩ := x.bo b hb
    exact ⟨q1, q2.keep (upd_ne (nb b hb)), q3⟩
  · by_cases q : b = a
    · rw [q, upd_same]; exact fun z => nomatch z
    · rw [upd_ne q]; exact (x.oh b hb).1
  · show σ.length = (ε.s.set i z).length
    rw [List.length_set]; exact x.len
  · rcases get_set hu with ⟨rfl, rfl, hl⟩ | ⟨ne, hu1⟩
    · exact ⟨_, ha, h⟩
    · obtain ⟨o2, g1, g2⟩ := x.sl j u hu1
      refine ⟨o2, g1, ?_⟩
      cases u with
      | ow ds =>
        obtain ⟨b, ys, e1, e2, e3, e4, e5, e6⟩ := g2
        subst e1
        have ba : b ≠ a := fun q => x.di i j y (.ow ds) a ne hi hu1 hy rfl ha (by rw [g1, q])
        exact ⟨b, ys, rfl, e2, e3, e4, by rw [upd_ne ba]; exact e5, e6⟩
      | st S n =>
        obtain ⟨b, e1, e2, e3, e4, e5⟩ := g2
        subst e1
        have ba : b ≠ a := fun q => x.di i j y (.st S n) a ne hi hu1 hy rfl ha (by rw [g1, q])
        exact ⟨b, rfl, e2, e3, e4, by rw [upd_ne ba]; exact e5⟩
      | dco xs =>
        obtain ⟨b, e1, e2, e3, e4, e5, e6⟩ := g2
        subst e1
        have ba : b ≠ a := fun q => x.di i j y (.dco xs) a ne hi hu1 hy rfl ha (by rw [g1, q])
        exact ⟨b, rfl, e2, e3, e4, (let ⟨ob, k⟩ := e5; ⟨ob, by rw [upd_ne ba]; exact k⟩), e6⟩
      | sto M =>
        obtain ⟨b, A, e1, e2, e3, e4, e5, e6⟩ := g2
        subst e1
        have ba : b ≠ a := fun q => x.di i j y (.sto M) a ne hi hu1 hy rfl ha (by rw [g1, q])
        exact ⟨b, A, rfl, e2, e3, e4, by rw [upd_ne ba]; exact e5, e6⟩
      | _ => exact g2
  · have back : ∀ (j : Nat) (u : SV), (ε.set i z).s[j]? = some u → Own u = true → ∃ u', ε.s[j]? = some u' ∧ Own u' = true := fun j u hu ou => by
      rcases get_set hu with ⟨rfl, rfl, _⟩ | ⟨_, h⟩
      · exact ⟨y, hi, hy⟩
      · exact ⟨u, h, ou⟩
    obtain ⟨v, hv, ov⟩ := back j u hu ou
    obtain ⟨v', hv', ov'⟩ := back k u' hu' ou'
    exact x.di j k v v' b hjk hv hv' ov ov'
end
section
variable {w : Wx} {ta tb tc te : TE} {f g h : DTE} {t u : TS} {p q : DTS} {K : PySem.W.Frag}
def dAppend (i : Nat) (f : DTE)  (Δ : DEnds) (ε : Env) : Prop := match ε.s[i]? with
  | some (.ow _) => f ε fun r ε1 => match r.pub, ε1.s[i]? with
    | .sh d, some (.ow ds) => ds.length < sizeLine ∧ Δ.nx (ε1.set i (.ow (ds ++ [d])))
    | _, _ => False
  | _ => False
theorem ss_append {i : Nat} (hf : SE w te f) : SS w (tDrop (tBM K "list" rAppend (tVar i) (tCons te tNil))) (dAppend i f) := by
  constructor
  · intro Δ Δ' ε l z
    unfold dAppend at z ⊢
    split at z
    · refine hf.mono _ _ _ (fun r ε1 z => ?_) z
      split at z
      · exact ⟨z.1, l.nx _ z.2⟩
      · exact z.elim
    · exact z.elim
  · intro Z O σ ε L H D Δ X E z
    unfold dAppend at z
    split at z
    · rename_i ds0 h0
      obtain ⟨o, h1, a, xs, h2, h3, h4, h5, h6, h7⟩ := X.sl i _ h0
      subst h2
      refine ⟨.ref a, h1, .inl ⟨rfl, _, SqL.of h6⟩, ?_⟩
      refine hf.run Z O σ ε L H _ X (hf.mono _ _ _ (fun r ε1 z => ?_) z)
      intro v L1 H1 X1 e1 r1
      split at z
      · rename_i d ds hd hs
        obtain ⟨L2, X2, e2, r2⟩ := publ X1 e1 r1
        rw [hd] at r2
        obtain ⟨o', g1, b, ys, g2, g3, g4, g5, g6, g7⟩ := X2.sl i _ hs
        subst g2
        rw [h1] at g1
        cases g1
        refine ⟨a, ys, v, rfl, rfl, g6, by rw [g7.len]; exact z.1, ?_⟩
        have X3 := (X2.mut (o := .lst (ys ++ [v])) hs rfl h1 (z := .ow (ds ++ [d])) ⟨a, _, rfl, g3, g4, g5, upd_same, g7.app (.one r2)⟩).1
        exact E.nx _ _ _ _ _ X3 z.2
      · exact z.elim
    · exact z.elim
/-- xs.append(ys.pop(e)) -/
def dAppPop (i j : Nat) (f : DTE)  (Δ : DEnds) (ε : Env) : Prop := match ε.s[i]?, ε.s[j]? with
  | some (.ow _), some (.ow _) => f ε fun r ε1 => match r.dat, ε1.s[i]?, ε1.s[j]? with
    | some (.int k), some (.ow ds), some (.ow es) => 0 ≤ k ∧ k < (es.length : Int) ∧ es.length < 1000000 ∧ ds.length < sizeLine ∧ ∃ d, es[k.toNat]? = some d ∧ Δ.nx ((ε1.set j (.ow (es.eraseIdx k.toNat))).set i (.ow (ds ++ [d])))
    | _, _, _ => False
  | _, _ => False
theorem DVs.erase {H : Hp} : ∀ {vs : List V} {ds : List PyData} (n : Nat), DVs H vs ds → DVs H (vs.eraseIdx n) (ds.eraseIdx n)
  | _, _, _, .nil => .nil
  | _, _, 0, .cons a r => r
  | _, _, n + 1, .cons a r => .cons a (r.erase n)
theorem ss_appPop {i j : Nat} (hij : i ≠ j) (hf : SE w te f) : SS w (tDrop (tBM K "list" rAppend (tVar i) (tCons (tBM K "list" rPopAt (tVar j) (tCons te tNil)) tNil))) (dAppPop i j f) := by
  constructor
  · intro Δ Δ' ε l z
    unfold dAppPop at z ⊢
    split at z
    · refine hf.mono _ _ _ (fun r ε1 z => ?_) z
      split at z
      · obtain ⟨h1, h2, h3, h4, d, h5, h6⟩ := z
        exact ⟨h1, h2, h3, h4, d, h5, l.nx _ h6⟩
      · exact z.elim
    · exact z.elim
  · intro Z O σ ε L H D Δ X E z
    unfold dAppPop at z
    split at z
    · rename_i ds0 es0 h0 h0'
      obtain ⟨o, h1, a, xs, h2, h3, h4, h5, h6, h7⟩ := X.sl i _ h0
      subst h2
      obtain ⟨o', k1, b, zs, k2, k3, k4, k5, k6, k7⟩ := X.sl j _ h0'
      subst k2
      refine ⟨.ref a, h1, .inl ⟨rfl, _, SqL.of h6⟩, .ref b, k1, .inl ⟨rfl, _, SqL.of k6⟩, ?_⟩
      refine hf.run Z O σ ε L H _ X (hf.mono _ _ _ (fun r ε1 z => ?_) z)
      intro v L1 H1 X1 e1 r1
      split at z
      · rename_i k ds es hd hs hs'
        obtain ⟨m1, m2, m3, m4, d, m5, m6⟩ := z
        cases (r1.vl hd).int
        obtain ⟨_, g1, _, ys, g2, g3, g4, g5, g6, g7⟩ := X1.sl i _ hs
        subst g2
        rw [h1] at g1
        cases g1
        obtain ⟨_, f1, _, us, f2, f3, f4, f5, f6, f7⟩ := X1.sl j _ hs'
        subst f2
        rw [k1] at f1
        cases f1
        have ab : a ≠ b := fun q => X1.di i j _ _ a hij hs hs' rfl rfl h1 (by rw [k1, q])
        obtain ⟨u, hu, du⟩ := f7.get m5
        have hl := f7.len
        refine ⟨b, us, k, k.toNat, u, rfl, rfl, f6, by omega, by omega, ?_, hu, ?_⟩
        · refine (ixN_seq (n := us.length) (i := k) (j := k.toNat) ?_).1
          unfold ixN
          rw [if_pos m1, if_pos (by omega)]
        · have X2 := (X1.mut (o := .lst (us.eraseIdx k.toNat)) hs' rfl k1 (z := .ow (es.eraseIdx k.toNat)) ⟨b, _, rfl, f3, f4, f5, upd_same, f7.erase _⟩).1
          have hs2 : (ε1.set j (.ow (es.eraseIdx k.toNat))).s[i]? = some (.ow ds) := by
            show (ε1.s.set j _)[i]? = _
            rw [List.getElem?_set, if_neg (Ne.symm hij)]; exact hs
          refine ⟨a, ys, u, rfl, rfl, by rw [upd_ne ab]; exact g6, by rw [g7.len]; exact m4, ?_⟩
          have X3 := (X2.mut (o := .lst (ys ++ [u])) hs2 rfl h1 (z := .ow (ds ++ [d])) ⟨a, _, rfl, g3, g4, g5, upd_same, g7.app (.one du)⟩).1
          exact E.nx _ _ _ _ _ X3 m6
      · exact z.elim
    · exact z.elim
/-- xs[e] = e' -/
def dSetIx (i : Nat) (f g : DTE)  (Δ : DEnds) (ε : Env) : Prop := f ε fun r ε1 => match r.pub with
  | .sh d => match ε1.s[i]? with
    | some (.ow _) => g ε1 fun k ε2 => match k.dat, ε2.s[i]? with
      | some (.int j), some (.ow ds) => ∃ m, ixN ds.length j = some m ∧ Δ.nx (ε2.set i (.ow (ds.set m d)))
      | _, _ => False
    | _ => False
  | _ => False
theorem ss_setIx {i : Nat} (hf : SE w ta f) (hg : SE w tb g) : SS w (tAsg ta (gSub (tVar i) tb rSetL)) (dSetIx i f g) := by
  constructor
  · intro Δ Δ' ε l z
    refine hf.mono _ _ _ (fun r ε1 z => ?_) z
    split at z
    · split at z
      · refine hg.mono _ _ _ (fun k ε2 z => ?_) z
        split at z
        · obtain ⟨m, h1, h2⟩ := z
          exact ⟨m, h1, l.nx _ h2⟩
        · exact z.elim
      · exact z.elim
    · exact z.elim
  · intro Z O σ ε L H D Δ X E z
    refine hf.run Z O σ ε L H _ X (hf.mono _ _ _ (fun r ε1 z => ?_) z)
    intro v L1 H1 X1 e1 r1
    split at z
    · rename_i d hd
      obtain ⟨L2, X2, e2, r2⟩ := publ X1 e1 r1
      rw [hd] at r2
      split at z
      · rename_i ds0 h0
        obtain ⟨o, h1, a, xs, h2, _⟩ := X2.sl i _ h0
        subst h2
        refine ⟨.ref a, h1, ?_⟩
        refine hg.run Z O σ ε1 L2 H1 _ X2 (hg.mono _ _ _ (fun k ε2 z => ?_) z)
        intro u L3 H3 X3 e3 r3
        split at z
        · rename_i j ds hj hs
          obtain ⟨m, m1, m2⟩ := z
          cases (r3.vl hj).int
          obtain ⟨_, g1, b, ys, g2, g3, g4, g5, g6, g7⟩ := X3.sl i _ hs
          subst g2
          rw [h1] at g1
          cases g1
          refine ⟨a, ys, j, m, rfl, rfl, g6, by rw [g7.len]; exact m1, ?_⟩
          have X4 := (X3.mut (o := .lst (ys.set m v)) hs rfl h1 (z := .ow (ds.set m d)) ⟨a, _, rfl, g3, g4, g5, upd_same, DVs.set (DV.to r2 e3.ll) m g7⟩).1
          exact E.nx _ _ _ _ _ X4 m2
        · exact z.elim
      · exact z.elim
    · exact z.elim
/-- xs += e, xs an own list -/
def dExt (i : Nat) (f : DTE)  (Δ : DEnds) (ε : Env) : Prop := match ε.s[i]? with
  | some (.ow _) => f ε fun r ε1 => match r.dat, ε1.s[i]? with
    | some (.list es), some (.ow ds) => ds.length + es.length ≤ sizeLine ∧ Δ.nx (ε1.set i (.ow (ds ++ es)))
    | _, _ => False
  | _ => False
theorem ss_ext {i : Nat} (hf : SE w te f) : SS w (tAug i te rExt2) (dExt i f) := by
  constructor
  · intro Δ Δ' ε l z
    unfold dExt at z ⊢
    split at z
    · refine hf.mono _ _ _ (fun r ε1 z => ?_) z
      split at z
      · exact ⟨z.1, l.nx _ z.2⟩
      · exact z.elim
    · exact z.elim
  · intro Z O σ ε L H D Δ X E z
    unfold dExt at z
    split at z
    · rename_i ds0 h0
      obtain ⟨o, h1, a, xs, h2, h3, h4, h5, h6, h7⟩ := X.sl i _ h0
      subst h2
      refine ⟨.ref a, h1, ?_⟩
      refine hf.run Z O σ ε L H _ X (hf.mono _ _ _ (fun r ε1 z => ?_) z)
      intro v L1 H1 X1 e1 r1
      split at z
      · rename_i es ds hd hs
        obtain ⟨b, zs, rfl, m1, m2⟩ := (r1.vl hd).lst X1.lh
        obtain ⟨_, g1, _, ys, g2, g3, g4, g5, g6, g7⟩ := X1.sl i _ hs
        subst g2
        rw [h1] at g1
        cases g1
        refine ⟨a, b, ys, zs, rfl, rfl, g6, m1, by rw [g7.len, m2.len]; exact z.1, ?_⟩
        have X3 := (X1.mut (o := .lst (ys ++ zs)) hs rfl h1 (z := .ow (ds ++ es)) ⟨a, _, rfl, g3, g4, g5, upd_same, g7.app m2⟩).1
        have e3 : σ.set i (some (.ref a)) = σ := List.ext_getElem? fun j => by
          rw [List.getElem?_set]
          split
          · rename_i e
            subst e
            split
            · exact h1.symm
            · rename_i hl
              rw [List.getElem?_eq_none_iff.mpr (by omega)]
          · rfl
        show D.nx (List.set σ i (some (.ref a))) _
        rw [e3]
        exact E.nx _ _ _ _ _ X3 z.2
      · exact z.elim
    · exact z.elim
/-- x op= e -/
def dAug (φ : PyData → PyData → (R → Prop) → Prop) (i : Nat) (f : DTE)  (Δ : DEnds) (ε : Env) : Prop := match ε.s[i]? with
  | some (.sh a) => f ε fun r ε1 => match r.dat with
    | some b => φ a b fun q => match val false q with
      | some y => Δ.nx (ε1.set i y)
      | none => False
    | none => False
  | _ => False
def dSet0 (i : Nat)  (Δ : DEnds) (ε : Env) : Prop := Δ.nx (ε.set i (.st (fun _ => false) 0))
theorem ss_set0 {i : Nat} : SS w (tAsg (tCB (rSet0 w) tNil) (gName i)) (dSet0 i) := by
  constructor
  · intro Δ Δ' ε l z
    exact l.nx _ z
  · intro Z O σ ε L H D Δ X E z
    refine ⟨rfl, fun a na => ?_⟩
    have e1 : Ext none L H L (upd H a (SetO w a (fun _ => false) 0)) := Ext.own na
    have X1 := X.step e1 (same_own X.lh (X.lh.free na))
    have n0 : Z.H0 a = none := X.ex.free na
    have nO : ¬ O a := fun o => (X.oh a o).1 na
    refine E.nx (fun b => O b ∨ b = a) _ _ _ _ (X1.put0 (i := i) (v := .ref a) (fun b => O b ∨ b = a) (fun b h => .inl h) (fun b hb => ?_) (y := .st (fun _ => false) 0) ⟨a, rfl, .inr rfl, X.lh.free na, n0, upd_same⟩ (fun _ b e => by cases e; exact nO)) z
    rcases hb with hb | rfl
    · exact X1.oh b hb
    · exact ⟨by rw [upd_same]; exact (fun z => nomatch z), n0⟩
def dSAdd (i : Nat) (f : DTE)  (Δ : DEnds) (ε : Env) : Prop := match ε.s[i]? with
  | some (.st _ _) => f ε fun r ε1 => match r.dat, ε1.s[i]? with
    | some (.int k), some (.st S n) => n + 1 < scanBound ∧ Δ.nx (ε1.set i (.st (fun j => S j || decide (j = k)) (if S k = true then n else n + 1)))
    | _, _ => False
  | _ => False
theorem ss_sadd {i : Nat} (hf : SE w te f) : SS w (tDrop (tSAdd w (tVar i) (tCons te tNil))) (dSAdd i f) := by
  constructor
  · intro Δ Δ' ε l z
    unfold dSAdd at z ⊢
    split at z
    · refine hf.mono _ _ _ (fun r ε1 z => ?_) z
      split at z
      · exact ⟨z.1, l.nx _ z.2⟩
      · exact z.elim
    · exact z.elim
  · intro Z O σ ε L H D Δ X E z
    unfold dSAdd at z
    split at z
    · rename_i S0 n0 h0
      obtain ⟨o, h1, a, h2, h3, h4, h5, h6⟩ := X.sl i _ h0
      subst h2
      refine ⟨.ref a, h1, ⟨a, S0, n0, rfl, h6⟩, ?_⟩
      refine hf.run Z O σ ε L H _ X (hf.mono _ _ _ (fun r ε1 z => ?_) z)
      intro v L1 H1 X1 e1 r1
      split at z
      · rename_i k S n hd hs
        cases (r1.vl hd).int
        obtain ⟨_, g1, _, g2, g3, g4, g5, g6⟩ := X1.sl i _ hs
        subst g2
        rw [h1] at g1
        cases g1
        refine ⟨a, k, S, n, rfl, rfl, g6, z.1, ?_⟩
        have X3 := (X1.mut (o := SetO w a (fun j => S j || decide (j = k)) (if S k = true then n else n + 1)) hs rfl h1 (z := .st (fun j => S j || decide (j = k)) (if S k = true then n else n + 1)) ⟨a, rfl, g3, g4, g5, upd_same⟩).1
        exact E.nx _ _ _ _ _ X3 z.2
      · exact z.elim
    · exact z.elim
def dSNotIn (f g : DTE)  (ε : Env) (Q : R → Env → Prop) : Prop := f ε fun x ε1 => g ε1 fun y ε2 => match x.dat, y with
  | some (.int k), .sr _ S _ => Q (.sh (.bool (!S k))) ε2
  | _, _ => False
theorem se_snotin (hf : SE w ta f) (hg : SE w tb g) : SE w (tOp (rSNotIn w) ta tb) (dSNotIn f g) := by
  constructor
  · intro ε A B h q
    refine hf.mono _ _ _ (fun x ε1 q => hg.mono _ _ _ (fun y ε2 q => ?_) q) q
    split at q
    · exact h _ _ q
    · exact q.elim
  · intro Z O σ ε L H Q X q
    refine hf.run Z O σ ε L H _ X (hf.mono _ _ _ (fun x ε1 q => ?_) q)
    intro v L1 H1 X1 e1 r1
    refine hg.run Z O σ ε1 L1 H1 _ X1 (hg.mono _ _ _ (fun y ε2 q => ?_) q)
    intro u L2 H2 X2 e2 r2
    split at q
    · rename_i k i S n ex
      obtain ⟨a, rfl, h1, h2, h3, h4, h5⟩ := r2
      cases ((r1.mono X1 e2).vl ex).int
      exact ⟨k, a, S, n, rfl, rfl, h5, q _ L2 H2 X2 (e1.trans e2) (.bl _)⟩
    · exact q.elim
end
end Lp

namespace Lp
open PySem PySem.Spec PyProof.Rows L2
/-- a list or a tuple -/
def iSeq (K : PySem.W.Frag) (tl : TE) : TI := fun σ H R => tl σ H fun x H1 => ∃ a, x = .ref a ∧ (((∃ xs, SqL K H1 a xs) ∧ R (Itl K a) H1) ∨ ((∃ xs, SqT K H1 a xs) ∧ R (Itt K a) H1))
theorem pi_seq {X : Cx} {tg o : Expr} {to : TE} (ho : PE X o to) : PI X tg o (iSeq X.K to) := by
  constructor
  intro pins s σ H R I want
  refine thn (ho.run pins s σ H _ I want) ?_
  rintro u s' ⟨_, H', J, rel, a, rfl, ways⟩
  cases rel
  have fp : ∀ b ∈ [s'.heap.objs.size], FpOk X pins H' b := fun b hb => by
    cases List.mem_singleton.mp hb
    exact J.fpOk (Nat.le_refl _) (J.hok.fresh (Nat.le_refl _))
  rcases ways with ⟨⟨xs, at_a⟩, go⟩ | ⟨⟨xs, at_a⟩, go⟩
  · obtain ⟨vals, _, lst, _⟩ := J.list at_a
    refine wpAny_pyIter_list lst.isList ⟨s'.heap.objs.size, [s'.heap.objs.size], _, _, H', rfl, ?_, turn_list a _, ⟨_, Heap.get?_push_size _ rfl, rfl, rfl⟩, fp, go⟩
    exact J.kept (t' := s'.toks) fun _ _ q => Heap.get?_push_of_some _ q
  · obtain ⟨vals, _, tup, _⟩ := J.tuple at_a
    have tup' : s'.heap.IsTuple a vals.toArray := tup
    refine wpAny_pyIter_tuple tup' ⟨s'.heap.objs.size, [s'.heap.objs.size], _, _, H', rfl, ?_, turn_tuple a _, ⟨_, Heap.get?_push_size _ rfl, rfl, rfl⟩, fp, go⟩
    exact J.kept (t' := s'.toks) fun _ _ q => Heap.get?_push_of_some _ q
/-- the items, while what is walked stands still -/
structure WalkS (pk : Bool) (L : Hp) (J : It) (ds : List PyData) : Prop where
  go : ∀ i L' H', Same L L' → Same L' H' → i < ds.length → J.go i H'
  stop : ∀ L' H', Same L L' → Same L' H' → J.stop ds.length H'
  yld : ∀ (i : Nat) d L' H' x H2, Same L L' → Same L' H' → ds[i]? = some d → J.yld i H' x H2 → ∃ L2, Ext none L' H' L2 H2 ∧ Same L2 H2 ∧ VI pk L2 H2 x d
structure WalkE (pk : Bool) (b : Option Addr) (L H : Hp) (J : It) (ds : List PyData) : Prop where
  go : ∀ i L' H', Ext b L H L' H' → Same L' H' → i < ds.length → J.go i H'
  stop : ∀ L' H', Ext b L H L' H' → Same L' H' → J.stop ds.length H'
  yld : ∀ (i : Nat) d L' H' x H2, Ext b L H L' H' → Same L' H' → ds[i]? = some d → J.yld i H' x H2 → ∃ L2, Ext none L' H' L2 H2 ∧ Same L2 H2 ∧ VI pk L2 H2 x d
theorem WalkS.e {pk : Bool} {b : Option Addr} {L H : Hp} {J : It} {ds : List PyData} (x : WalkS pk L J ds) : WalkE pk b L H J ds :=
  ⟨fun i L' H' e s h => x.go i L' H' e.ll s h, fun L' H' e s => x.stop L' H' e.ll s, fun i d L' H' y H2 e s h => x.yld i d L' H' y H2 e.ll s h⟩
abbrev DTI := Env → (List PyData → Bool → Env → Prop) → Prop
structure SI (w : Wx) (pk : Bool) (t : TI) (f : DTI) : Prop where
  mono : ∀ ε (A B : List PyData → Bool → Env → Prop), (∀ r b ε', A r b ε' → B r b ε') → f ε A → f ε B
  run : ∀ (Z : Zx) (O : Addr → Prop) (σ : L2.St) (ε : Env) (L H : Hp) (R : It → Hp → Prop), Rep w Z O L H σ ε → f ε (fun ds fl ε' => ∀ J L' H', Rep w Z O L' H' σ ε' → Ext Z.b L H L' H' → WalkE pk Z.b L' H' J ds → (fl = true → WalkS pk L' J ds) → R J H') → t σ H R
section
variable {w : Wx} {K : PySem.W.Frag} {ta tb te : TE} {f g : DTE}
theorem walkS_list {L : Hp} {a : Addr} {xs : List V} {ds : List PyData} (h : L a = some (.lst xs)) (r : DVs L xs ds) : WalkS false L (Itl K a) ds := by
  have hl := r.len
  refine ⟨fun i L' H' s1 s2 hi => ?_, fun L' H' s1 s2 => ?_, fun i d L' H' x H2 s1 s2 hd y => ?_⟩
  · exact ⟨xs, xs[i]'(by omega), SqL.of (s2 _ _ (s1 _ _ h)), List.getElem?_eq_getElem (by omega)⟩
  · exact ⟨xs, SqL.of (s2 _ _ (s1 _ _ h)), by omega⟩
  · obtain ⟨rfl, y2⟩ := y
    have hx := y2 xs (SqL.of (s2 _ _ (s1 _ _ h)))
    obtain ⟨v, h1, h2⟩ := r.get hd
    rw [hx] at h1
    cases h1
    exact ⟨L', Ext.refl _ _ _, s2, h2.to s1⟩
theorem walkS_tup {L : Hp} {a : Addr} {xs : List V} {ds : List PyData} (h : Sol L a xs) (r : DVs L xs ds) : WalkS false L (Itt K a) ds := by
  have hl := r.len
  refine ⟨fun i L' H' s1 s2 hi => ?_, fun L' H' s1 s2 => ?_, fun i d L' H' x H2 s1 s2 hd y => ?_⟩
  · exact ⟨xs, xs[i]'(by omega), ((h.to s1).to s2).seq, List.getElem?_eq_getElem (by omega)⟩
  · exact ⟨xs, ((h.to s1).to s2).seq, by omega⟩
  · obtain ⟨rfl, y2⟩ := y
    have hx := y2 xs (((h.to s1).to s2).seq)
    obtain ⟨v, h1, h2⟩ := r.get hd
    rw [hx] at h1
    cases h1
    exact ⟨L', Ext.refl _ _ _, s2, h2.to s1⟩
theorem walkE_list {b : Option Addr} {L H : Hp} {a : Addr} {xs : List V} {ds : List PyData} (hb : b ≠ some a) (h : H a = some (.lst xs)) (r : DVs L xs ds) : WalkE false b L H (Itl K a) ds := by
  have hl := r.len
  refine ⟨fun i L' H' e s2 hi => ?_, fun L' H' e s2 => ?_, fun i d L' H' x H2 e s2 hd y => ?_⟩
  · exact ⟨xs, xs[i]'(by omega), SqL.of (e.hh _ _ h hb), List.getElem?_eq_getElem (by omega)⟩
  · exact ⟨xs, SqL.of (e.hh _ _ h hb), by omega⟩
  · obtain ⟨rfl, y2⟩ := y
    have hx := y2 xs (SqL.of (e.hh _ _ h hb))
    obtain ⟨v, h1, h2⟩ := r.get hd
    rw [hx] at h1
    cases h1
    exact ⟨L', Ext.refl _ _ _, s2, h2.to e.ll⟩
def dIter (f : DTE)  (ε : Env) (Q : List PyData → Bool → Env → Prop) : Prop := f ε fun r ε1 => match r.pub with
  | .sh (.list ds) => Q ds true ε1
  | .sh (.tuple ds) => Q ds true ε1
  | .br _ ds => Q ds false ε1
  | _ => False
theorem si_seq (hf : SE w ta f) : SI w false (iSeq K ta) (dIter f) := by
  constructor
  · intro ε A B h q
    refine hf.mono _ _ _ (fun r ε1 q => ?_) q
    split at q
    · exact h _ _ _ q
    · exact h _ _ _ q
    · exact h _ _ _ q
    · exact q.elim
  · intro Z O σ ε L H R X q
    refine hf.run Z O σ ε L H _ X (hf.mono _ _ _ (fun r ε1 q => ?_) q)
    intro v L1 H1 X1 e1 r1
    obtain ⟨L2, X2, e2, r2⟩ := publ X1 e1 r1
    split at q
    · rename_i ds hd
      rw [hd] at r2
      cases (show DV L2 v (.list ds) from r2) with
      | lst h1 h2 =>
        have W := walkS_list (K := K) h1 h2
        exact ⟨_, rfl, .inl ⟨⟨_, SqL.of (X2.lh _ _ h1)⟩, q _ L2 H1 X2 e2 W.e fun _ => W⟩⟩
    · rename_i ds hd
      rw [hd] at r2
      cases (show DV L2 v (.tuple ds) from r2) with
      | tup h1 h2 =>
        have W := walkS_tup (K := K) h1 h2
        exact ⟨_, rfl, .inr ⟨⟨_, (h1.to X2.lh).seq⟩, q _ L2 H1 X2 e2 W.e fun _ => W⟩⟩
    · rename_i i ds hd
      rw [hd] at r2
      obtain ⟨a, xs, rfl, h1, h2, h3, h4, h5, h6⟩ := r2
      exact ⟨a, rfl, .inl ⟨⟨_, SqL.of h5⟩, q _ L2 H1 X2 e2 (walkE_list (X2.nob h3) h5 h6) (fun z => nomatch z)⟩⟩
    · exact q.elim
/-- the ints from lo on, n of them -/
def rgD (lo : Int) (n : Nat) : List PyData := (List.range n).map fun i => .int (lo + (i : Nat))
theorem rgD_len (lo : Int) (n : Nat) : (rgD lo n).length = n := by unfold rgD; rw [List.length_map, List.length_range]
theorem rgD_get {lo : Int} {n i : Nat} {d : PyData} (h : (rgD lo n)[i]? = some d) : i < n ∧ d = .int (lo + (i : Nat)) := by
  have hi : i < n := by
    have := (List.getElem?_eq_some_iff.mp h).1
    rwa [rgD_len] at this
  unfold rgD at h
  rw [List.getElem?_map, List.getElem?_range hi] at h
  cases h
  exact ⟨hi, rfl⟩
theorem walkS_rg {L : Hp} {lo : Int} {n : Nat} : WalkS false L (Itr lo n) (rgD lo n) := by
  refine ⟨fun i L' H' s1 s2 hi => ?_, fun L' H' s1 s2 => ?_, fun i d L' H' x H2 s1 s2 hd y => ?_⟩
  · rw [rgD_len] at hi; exact hi
  · rw [rgD_len]; exact Nat.le_refl n
  · obtain ⟨rfl, rfl⟩ := y
    obtain ⟨_, rfl⟩ := rgD_get hd
    exact ⟨L', Ext.refl _ _ _, s2, .int _⟩
def dRng1 (f : DTA)  (ε : Env) (Q : List PyData → Bool → Env → Prop) : Prop := f ε fun rs ε1 => match rs with
  | [.sh (.int j)] => (-(2 ^ 62) ≤ j ∧ j < 2 ^ 62) ∧ Q (rgD 0 j.toNat) true ε1
  | _ => False
theorem si_rng1 {n : Nat} {t : TA} {f : DTA} (hf : SA w n t f) : SI w false (iRng1 t) (dRng1 f) := by
  constructor
  · intro ε A B h q
    refine hf.mono _ _ _ (fun r ε1 q => ?_) q
    split at q
    · exact ⟨q.1, h _ _ _ q.2⟩
    · exact q.elim
  · intro Z O σ ε L H R X q
    refine hf.run Z O σ ε L H _ X (hf.mono _ _ _ (fun r ε1 q => ?_) q)
    intro vs L1 H1 X1 e1 r1 hl np
    split at q
    · rename_i j
      cases r1 with
      | cons r1 r2 =>
        cases r2
        cases (show DV L1 _ (.int j) from r1)
        exact ⟨j, rfl, q.1.1, q.1.2, q.2 _ L1 H1 X1 e1 walkS_rg.e fun _ => walkS_rg⟩
    · exact q.elim
def dRng2 (f : DTA)  (ε : Env) (Q : List PyData → Bool → Env → Prop) : Prop := f ε fun rs ε1 => match rs with
  | [.sh (.int i), .sh (.int j)] => (-(2 ^ 62) ≤ i ∧ i < 2 ^ 62 ∧ -(2 ^ 62) ≤ j ∧ j < 2 ^ 62) ∧ Q (rgD i (j - i).toNat) true ε1
  | _ => False
end
abbrev DTG := PyData → Env → (Env → Prop) → Prop
/-- but for the slots js all is as it was -/
def But (js : List Nat) (σ σ' : L2.St) : Prop := σ'.length = σ.length ∧ ∀ i : Nat, i ∉ js → σ'[i]? = σ[i]?
structure SG (w : Wx) (pk : Bool) (js : List Nat) (g : TG) (γ : DTG) : Prop where
  mono : ∀ d ε (A B : Env → Prop), (∀ ε', A ε' → B ε') → γ d ε A → γ d ε B
  run : ∀ (Z : Zx) (O : Addr → Prop) (σ : L2.St) (ε : Env) (L H : Hp) (v : V) (d : PyData) (Q : L2.St → Hp → Prop), Rep w Z O L H σ ε → VI pk L H v d → γ d ε (fun ε' => ∀ σ', Rep w Z O L H σ' ε' → But js σ σ' → Q σ' H) → g v σ H Q
abbrev DTGs := List PyData → Env → (Env → Prop) → Prop
structure SGs (w : Wx) (js : List Nat) (g : TGs) (γ : DTGs) : Prop where
  mono : ∀ d ε (A B : Env → Prop), (∀ ε', A ε' → B ε') → γ d ε A → γ d ε B
  run : ∀ (Z : Zx) (O : Addr → Prop) (σ : L2.St) (ε : Env) (L H : Hp) (v : List V) (d : List PyData) (Q : L2.St → Hp → Prop), Rep w Z O L H σ ε → DVs L v d → γ d ε (fun ε' => ∀ σ', Rep w Z O L H σ' ε' → But js σ σ' → Q σ' H) → g v σ H Q
section
variable {w : Wx} {K : PySem.W.Frag}
def dName (i : Nat)  (d : PyData) (ε : Env) (Q : Env → Prop) : Prop := Q (ε.set i (.sh d))
theorem sg_name {i : Nat} : SG w false [i] (gName i) (dName i) := ⟨fun _ _ _ _ h q => h _ q, fun Z O σ ε L H v d Q X r q => q _ (X.sh r) ⟨List.length_set, fun j hj => by
  rw [List.getElem?_set, if_neg (fun e => hj (by rw [e]; exact List.mem_singleton.mpr rfl))]⟩⟩
def dGNil  (ds : List PyData) (ε : Env) (Q : Env → Prop) : Prop := match ds with
  | [] => Q ε
  | _ => False
def dGCons (γ : DTG) (γs : DTGs)  (ds : List PyData) (ε : Env) (Q : Env → Prop) : Prop := match ds with
  | d :: ds => γ d ε fun ε1 => γs ds ε1 Q
  | _ => False
theorem sgs_nil : SGs w [] gNil dGNil := by
  constructor
  · intro ds ε A B h q
    cases ds with
    | nil => exact h _ q
    | cons _ _ => exact q.elim
  · intro Z O σ ε L H v d Q X r q
    cases r with
    | nil => exact ⟨rfl, q _ X ⟨rfl, fun _ _ => rfl⟩⟩
    | cons _ _ => exact q.elim
theorem sgs_cons {g : TG} {gs : TGs} {γ : DTG} {γs : DTGs} {js ks : List Nat} (hg : SG w false js g γ) (hs : SGs w ks gs γs) : SGs w (js ++ ks) (gCons g gs) (dGCons γ γs) := by
  constructor
  · intro ds ε A B h q
    cases ds with
    | nil => exact q.elim
    | cons d ds => exact hg.mono _ _ _ _ (fun ε1 q => hs.mono _ _ _ _ h q) q
  · intro Z O σ ε L H v d Q X r q
    cases r with
    | nil => exact q.elim
    | cons r rr =>
      refine ⟨_, _, rfl, hg.run Z O σ ε L H _ _ _ X r (hg.mono _ _ _ _ (fun ε1 q σ1 X1 b1 => ?_) q)⟩
      refine hs.run Z O σ1 ε1 L H _ _ _ X1 rr (hs.mono _ _ _ _ (fun ε2 q σ2 X2 b2 => ?_) q)
      exact q σ2 X2 ⟨b2.1.trans b1.1, fun i hi => (b2.2 i fun h => hi (List.mem_append_right _ h)).trans (b1.2 i fun h => hi (List.mem_append_left _ h))⟩
def dGTup (n : Nat) (γs : DTGs)  (d : PyData) (ε : Env) (Q : Env → Prop) : Prop := match d with
  | .tuple ds => ds.length = n ∧ γs ds ε Q
  | _ => False
theorem sg_tup {pk : Bool} {n : Nat} {gs : TGs} {γs : DTGs} {js : List Nat} (hs : SGs w js gs γs) : SG w pk js (gTup K n gs) (dGTup n γs) := by
  constructor
  · intro d ε A B h q
    cases d with
    | tuple ds => exact ⟨q.1, hs.mono _ _ _ _ h q.2⟩
    | _ => exact q.elim
  · intro Z O σ ε L H v d Q X r q
    have solid : DV L v d → gTup K n gs v σ H Q := fun r => by
      cases r with
      | tup h1 h2 => exact ⟨_, _, rfl, (h1.to X.lh).seq, by rw [h2.len]; exact q.1, hs.run Z O σ ε L H _ _ _ X h2 q.2⟩
      | _ => exact q.elim
    cases pk with
    | false => exact solid r
    | true =>
      rcases r with r | ⟨a, xs, ds, rfl, rfl, h1, h2⟩
      · exact solid r
      · exact ⟨_, _, rfl, SqT.of h1, by rw [h2.len]; exact q.1, hs.run Z O σ ε L H _ _ _ X h2 q.2⟩
variable {ta : TE} {f : DTE}
def dAsg (f : DTE) (γ : DTG)  (Δ : DEnds) (ε : Env) : Prop := f ε fun r ε1 => match r.pub with
  | .sh d => γ d ε1 Δ.nx
  | _ => False
def forD (γ : DTG) (p : DTS) (Δ : DEnds) : List PyData → Env → Prop
  | [], ε => Δ.nx ε
  | d :: ds, ε => γ d ε fun ε1 => p { nx := forD γ p Δ ds, rt := Δ.rt, bk := Δ.nx, ct := forD γ p Δ ds } ε1
def dFor (i : DTI) (γ : DTG) (p : DTS)  (Δ : DEnds) (ε : Env) : Prop := i ε fun ds fl ε1 => fl = true ∧ forD γ p Δ ds ε1
/-- what is known of the pinned view may be forgotten -/
theorem Rep.unpin {Z : Zx} {O : Addr → Prop} {σ : L2.St} {ε : Env} {L H P : Hp} (h : Same Z.P P) (ph : w.Φ Z) (x : Rep w { Z with P := P } O L H σ ε) : Rep w Z O L H σ ε :=
  ⟨x.lh, h.trans x.pn, x.ex, x.bo, x.oh, x.len, x.sl, x.di, ph⟩
theorem Rep.pin {Z : Zx} {O : Addr → Prop} {σ : L2.St} {ε : Env} {L H P : Hp} (h0 : Same Z.P P) (h : Same P L) (x : Rep w Z O L H σ ε) : Rep w { Z with P := P } O L H σ ε :=
  ⟨x.lh, h, x.ex, x.bo, x.oh, x.len, x.sl, x.di, w.up _ _ h0 x.ph⟩
theorem forD_mono {pk : Bool} {γ : DTG} {p : DTS} {t : TS} {g : TG} {js : List Nat} (hg : SG w pk js g γ) (hp : SS w t p) {Δ Δ' : DEnds} (l : DEnds.le Δ Δ') : ∀ (ds : List PyData) (ε : Env), forD γ p Δ ds ε → forD γ p Δ' ds ε
  | [], ε, z => l.nx ε z
  | d :: ds, ε, z => hg.mono _ _ _ _ (fun ε1 z => hp.mono { nx := forD γ p Δ ds, rt := Δ.rt, bk := Δ.nx, ct := forD γ p Δ ds } _ ε1 ⟨forD_mono hg hp l ds, l.rt, l.nx, forD_mono hg hp l ds⟩ z) z
theorem ss_for {pk : Bool} {wi : TI} {i : DTI} {g : TG} {γ : DTG} {t : TS} {p : DTS} {js : List Nat} (hi : SI w pk wi i) (hg : SG w pk js g γ) (hp : SS w t p) : SS w (tFor wi g t) (dFor i γ p) := by
  constructor
  · intro Δ Δ' ε l z
    exact hi.mono _ _ _ (fun ds b ε1 z => ⟨z.1, forD_mono hg hp l ds ε1 z.2⟩) z
  · intro Z O σ ε L H D Δ X E z
    refine hi.run Z O σ ε L H _ X (hi.mono _ _ _ (fun ds b ε1 z => ?_) z)
    intro J L1 H1 X1 e1 _ W
    obtain ⟨hb, z⟩ := z
    have W := W hb
    have sP := X1.pn
    refine ⟨fun i m σ H => i + m = ds.length ∧ ∃ O L ε, Rep w { Z with P := L1 } O L H σ ε ∧ forD γ p Δ (ds.drop i) ε, ⟨ds.length, by omega, O, L1, ε1, X1.pin X1.pn (Same.refl _), by rw [List.drop_zero]; exact z⟩, ?_⟩
    rintro i m σ2 H2 ⟨him, O2, L2, ε2, X2, z2⟩
    by_cases hlt : i < ds.length
    · refine .inr ⟨W.go i L2 H2 X2.pn X2.lh hlt, fun σ' H' => ∃ O L ε, Rep w { Z with P := L1 } O L H' σ' ε ∧ forD γ p Δ (ds.drop (i + 1)) ε, fun σ' H' q => ⟨m - 1, by omega, by omega, q⟩, fun x H' y => ?_⟩
      have hd : ds[i]? = some ds[i] := List.getElem?_eq_getElem hlt
      rw [List.drop_eq_getElem_cons hlt] at z2
      obtain ⟨L3, e3, s3, r3⟩ := W.yld i ds[i] L2 H2 x H' X2.pn X2.lh hd y
      have X3 := X2.step e3 s3
      refine hg.run _ O2 σ2 ε2 L3 H' x ds[i] _ X3 r3 (hg.mono _ _ _ _ (fun ε3 z3 σ3 X4 _ => ?_) z2)
      refine hp.run _ O2 σ3 ε3 L3 H' _ { nx := forD γ p Δ (ds.drop (i + 1)), rt := Δ.rt, bk := Δ.nx, ct := forD γ p Δ (ds.drop (i + 1)) } X4 ⟨fun O σ ε L H X z => ⟨O, L, ε, X, z⟩, fun O σ ε L H v r X q z => E.rt O σ ε L H v r (X.unpin sP X1.ph) q z, fun O σ ε L H X z => E.nx O σ ε L H (X.unpin sP X1.ph) z, fun O σ ε L H X z => ⟨O, L, ε, X, z⟩⟩ z3
    · have e : i = ds.length := by omega
      subst e
      rw [List.drop_length] at z2
      exact .inl ⟨W.stop L2 H2 X2.pn X2.lh, E.nx O2 σ2 ε2 L2 H2 (X2.unpin sP X1.ph) z2⟩
def whileN (c : DTT) (p : DTS) (Δ : DEnds) : Nat → Env → Prop
  | 0, _ => False
  | n + 1, ε => c ε fun b ε1 => if b = true then p { nx := whileN c p Δ n, rt := Δ.rt, bk := Δ.nx, ct := whileN c p Δ n } ε1 else Δ.nx ε1
def dWhile (c : DTT) (p : DTS)  (Δ : DEnds) (ε : Env) : Prop := ∃ n, whileN c p Δ n ε
theorem whileN_mono {c : DTT} {p : DTS} {tc : TT} {t : TS} (hc : ST w tc c) (hp : SS w t p) {Δ Δ' : DEnds} (l : DEnds.le Δ Δ') : ∀ (n : Nat) (ε : Env), whileN c p Δ n ε → whileN c p Δ' n ε
  | 0, ε, z => z
  | n + 1, ε, z => by
    refine hc.mono _ _ _ (fun b ε1 z => ?_) z
    cases b with
    | true => exact iteT (hp.mono { nx := whileN c p Δ n, rt := Δ.rt, bk := Δ.nx, ct := whileN c p Δ n } _ ε1 ⟨whileN_mono hc hp l n, l.rt, l.nx, whileN_mono hc hp l n⟩ (by rw [if_pos rfl] at z; exact z))
    | false => exact iteF (l.nx _ (by rw [if_neg Bool.false_ne_true] at z; exact z))
theorem ss_while {c : DTT} {p : DTS} {tc : TT} {t : TS} (hc : ST w tc c) (hp : SS w t p) : SS w (tWhile tc t) (dWhile c p) := by
  constructor
  · rintro Δ Δ' ε l ⟨n, z⟩
    exact ⟨n, whileN_mono hc hp l n ε z⟩
  · rintro Z O σ ε L H D Δ X E ⟨n, z⟩
    refine ⟨fun m σ H => ∃ O L ε, Rep w Z O L H σ ε ∧ whileN c p Δ m ε, ⟨n, O, L, ε, X, z⟩, ?_⟩
    rintro m σ1 H1 ⟨O1, L1, ε1, X1, z1⟩
    cases m with
    | zero => exact z1.elim
    | succ m =>
      refine hc.run Z O1 σ1 ε1 L1 H1 _ X1 (hc.mono _ _ _ (fun b ε2 z2 => ?_) z1)
      intro L2 H2 X2 e2
      cases b with
      | true =>
        rw [if_pos rfl] at z2
        refine iteT ⟨fun σ' H' => ∃ O L ε, Rep w Z O L H' σ' ε ∧ whileN c p Δ m ε, fun σ' H' q => ⟨m, Nat.lt_succ_self m, q⟩, ?_⟩
        exact hp.run Z O1 σ1 ε2 L2 H2 _ { nx := whileN c p Δ m, rt := Δ.rt, bk := Δ.nx, ct := whileN c p Δ m } X2 ⟨fun O σ ε L H X z => ⟨O, L, ε, X, z⟩, E.rt, E.nx, fun O σ ε L H X z => ⟨O, L, ε, X, z⟩⟩ z2
      | false =>
        rw [if_neg Bool.false_ne_true] at z2
        exact iteF (E.nx O1 σ1 ε2 L2 H2 X2 z2)
end
end Lp

namespace Lp
open PySem PySem.Spec PyProof.Rows L2
theorem Rep.exts {w : Wx} {Z : Zx} {O : Addr → Prop} {σ : L2.St} {ε : Env} {L H L' H' : Hp} {c : Nat} (x : Rep w Z O L H σ ε) (e : Ext Z.b L H L' H') (s : Same L' H') (hc : ∀ b, Z.b = some b → Box H' b c) : Rep w Z O L' H' σ ⟨ε.s, c⟩ := by
  refine ⟨s, x.pn.trans e.ll, x.ex.trans e, fun b hb => ?_, fun a h => ⟨e.dom a (x.oh a h).1, (x.oh a h).2⟩, x.len, fun i y hy => ?_, x.di, x.ph⟩
  · obtain ⟨h1, h2, h3⟩ := x.bo b hb
    exact ⟨e.fr b h1 h2.there, hc b hb, h3⟩
  · obtain ⟨o, h1, h2⟩ := x.sl i y hy
    refine ⟨o, h1, ?_⟩
    cases y with
    | un => trivial
    | sh d =>
      obtain ⟨v, e1, e2⟩ := h2
      exact ⟨v, e1, e2.to e.ll⟩
    | ow ds =>
      obtain ⟨a, xs, e1, e2, e3, e4, e5, e6⟩ := h2
      exact ⟨a, xs, e1, e2, e.fr a e3 (by rw [e5]; exact (fun z => nomatch z)), e4, e.hh _ _ e5 (x.nob e4), e6.to e.ll⟩
    | bx => exact h2
    | st S n =>
      obtain ⟨a, e1, e2, e3, e4, e5⟩ := h2
      exact ⟨a, e1, e2, e.fr a e3 (by rw [e5]; exact (fun z => nomatch z)), e4, e.hh _ _ e5 (x.nob e4)⟩
    | raw u => exact h2
    | exn x => obtain ⟨v, e1, e2⟩ := h2; exact ⟨v, e1, e2.to e.ll⟩
    | dco xs =>
      obtain ⟨a, e1, e2, e3, e4, ⟨ob, e5⟩, e6⟩ := h2
      exact ⟨a, e1, e2, e.fr a e3 (by rw [e5]; exact (fun z => nomatch z)), e4, ⟨ob, e.hh _ _ e5 (x.nob e4)⟩, e6.to e.ll⟩
    | sto M =>
      obtain ⟨a, A, e1, e2, e3, e4, e5, e6⟩ := h2
      exact ⟨a, A, e1, e2, e.fr a e3 (by rw [e5]; exact (fun z => nomatch z)), e4, e.hh _ _ e5 (x.nob e4), e6.to e.ll⟩
    | dsh xs => obtain ⟨v, e1, e2⟩ := h2; exact ⟨v, e1, e2.to e.ll⟩
abbrev DSp := List SV → Nat → (R → Nat → Prop) → Prop
def MonF (F : DSp) : Prop := ∀ args c (A B : R → Nat → Prop), (∀ r c', A r c' → B r c') → F args c A → F args c B
def CallZ (b : Option Addr) (L H : Hp) (c : Nat) : Prop := Same L H ∧ ∀ a, b = some a → L a = none ∧ Box H a c
def ArgR (b : Option Addr) (L : Hp) (v : V) : SV → Prop
  | .sh d => DV L v d
  | .bx => ∃ a, b = some a ∧ v = .ref a
  | .raw u => v = u
  | _ => False
inductive ArgsR (b : Option Addr) (L : Hp) : List V → List SV → Prop
  | nil : ArgsR b L [] []
  | cons {v : V} {vs : List V} {x : SV} {xs : List SV} : ArgR b L v x → ArgsR b L vs xs → ArgsR b L (v :: vs) (x :: xs)
def spD (n : Nat) (F : DSp) : Sp := fun vs H Q _ => ∃ (b : Option Addr) (L : Hp) (c : Nat) (args : List SV), vs.length = n ∧ CallZ b L H c ∧ ArgsR b L vs args ∧
  F args c fun r c' => ∀ v L' H', CallZ b L' H' c' → Ext b L H L' H' → VR0 H L' H' v r → Q v H'
def R.arg : R → Option SV
  | .sh d => some (.sh d)
  | .br _ ds => some (.sh (.list ds))
  | .bx => some .bx
  | .raw v => some (.raw v)
  | _ => none
def argsOf : List R → Option (List SV)
  | [] => some []
  | r :: rs => match r.arg, argsOf rs with
    | some x, some xs => some (x :: xs)
    | _, _ => none
def hasBr : List R → Bool
  | [] => false
  | .br _ _ :: _ => true
  | _ :: rs => hasBr rs
def immR : R → Bool
  | .sh d => imm d
  | .nw ds => imms ds
  | _ => false
def dArgs (F : DSp) (rs : List R) (ε : Env) (Q : R → Env → Prop) : Prop := match argsOf rs with
  | some args => F args ε.c fun r c => match hasBr rs with
    | true => immR r = true ∧ Q r ⟨ε.s, c⟩
    | false => Q r ⟨ε.s, c⟩
  | none => False
theorem dArgs_mono {F : DSp} (hF : MonF F) {rs : List R} {ε : Env} {A B : R → Env → Prop} (h : ∀ r ε, A r ε → B r ε) (q : dArgs F rs ε A) : dArgs F rs ε B := by
  unfold dArgs at q ⊢
  split at q
  · refine hF _ _ _ _ (fun r c q => ?_) q
    split at q
    · exact ⟨q.1, h _ _ q.2⟩
    · exact h _ _ q
  · exact q.elim
section
variable {w : Wx} {Z : Zx} {O : Addr → Prop} {σ : L2.St} {ε : Env} {L H Hs : Hp}
theorem args_plain : ∀ {vs : List V} {rs : List R} {args : List SV}, VRs w Z O σ Hs L H vs rs → argsOf rs = some args → hasBr rs = false → ArgsR Z.b L vs args
  | _, _, _, .nil, e, _ => by cases e; exact .nil
  | _, r :: rs, args, .cons a b, e, h => by
    unfold argsOf at e
    split at e
    · rename_i x xs hx hxs
      cases e
      have h2 : hasBr rs = false := by cases r <;> first | exact h | cases h
      refine .cons ?_ (args_plain b hxs h2)
      cases r with
      | sh d => cases hx; exact a
      | br i ds => cases h
      | bx => cases hx; exact a
      | raw u => cases hx; exact a
      | nw ds => cases hx
      | sr i S n => cases hx
      | exn y => cases hx
      | dnw xs => cases hx
      | dbr i xs => cases hx
      | srt i M => cases hx
      | dsh xs => cases hx
    · cases e
/-- the lists that slots own and arguments lend -/
def lent (σ : L2.St) (rs : List R) (a : Addr) : Prop := ∃ i ds, R.br i ds ∈ rs ∧ σ[i]? = some (some (.ref a))
theorem args_lent {L2 : Hp} (s : Same L L2) : ∀ {vs : List V} {rs : List R} {args : List SV}, VRs w Z O σ Hs L H vs rs → argsOf rs = some args → (∀ a, lent σ rs a → L2 a = H a) → ArgsR Z.b L2 vs args
  | _, _, _, .nil, e, _ => by cases e; exact .nil
  | _, r :: rs, args, .cons x y, e, h => by
    unfold argsOf at e
    split at e
    · rename_i z zs hz hzs
      cases e
      refine .cons ?_ (args_lent s y hzs fun a ⟨i, ds, h1, h2⟩ => h a ⟨i, ds, List.mem_cons_of_mem _ h1, h2⟩)
      cases r with
      | sh d => cases hz; exact DV.to x s
      | br i ds =>
        cases hz
        obtain ⟨a, xs, rfl, h1, h2, h3, h4, h5, h6⟩ := x
        exact .lst (by rw [h a ⟨i, ds, List.mem_cons_self, h1⟩]; exact h5) (h6.to s)
      | bx => cases hz; exact x
      | raw u => cases hz; exact x
      | nw ds => cases hz
      | sr i S n => cases hz
      | exn y => cases hz
      | dnw xs => cases hz
      | dbr i xs => cases hz
      | srt i M => cases hz
      | dsh xs => cases hz
    · cases e
theorem lent_own : ∀ {vs : List V} {rs : List R} {a : Addr}, VRs w Z O σ Hs L H vs rs → lent σ rs a → O a ∧ Z.H0 a = none ∧ L a = none ∧ ∃ xs, H a = some (.lst xs)
  | _, _, _, .nil, h => by obtain ⟨i, ds, h1, _⟩ := h; cases h1
  | _, r :: rs, a, .cons x y, h => by
    obtain ⟨i, ds, h1, h2⟩ := h
    rcases List.mem_cons.mp h1 with rfl | h1
    · obtain ⟨b, xs, _, g1, g2, g3, g4, g5, g6⟩ := x
      rw [h2] at g1
      cases g1
      exact ⟨g2, g3, g4, xs, g5⟩
    · exact lent_own y ⟨i, ds, h1, h2⟩
open Classical in
theorem run_args {n : Nat} {F : DSp} (hF : MonF F) {vs : List V} {rs : List R} {Q : VK} {E : XK} {L0 H0 : Hp} (X : Rep w Z O L H σ ε) (e : Ext Z.b L0 H0 L H) (r : VRs w Z O σ Hs L H vs rs) (hn : vs.length = n)
    (q : dArgs F rs ε fun r ε' => ∀ v L' H', Rep w Z O L' H' σ ε' → Ext Z.b L0 H0 L' H' → VR w Z O σ H0 L' H' v r → Q v H') : spD n F vs H Q E := by
  unfold dArgs at q
  split at q
  · rename_i args ha
    have cz : ∀ b, Z.b = some b → L b = none ∧ Box H b ε.c := fun b hb => ⟨(X.bo b hb).1, (X.bo b hb).2.1⟩
    cases hb : hasBr rs with
    | false =>
      rw [hb] at q
      refine ⟨Z.b, L, ε.c, args, hn, ⟨X.lh, cz⟩, args_plain r ha hb, hF _ _ _ _ (fun r c q => ?_) q⟩
      intro v L' H' z' e' r'
      exact q v L' H' (X.exts e' z'.1 fun b hb => (z'.2 b hb).2) (e.trans e') ((r'.vr X).back e)
    | true =>
      rw [hb] at q
      let L2 : Hp := fun a => if lent σ rs a then H a else L a
      have h1 : ∀ a, lent σ rs a → L2 a = H a := fun a h => if_pos h
      have h0 : ∀ a, ¬ lent σ rs a → L2 a = L a := fun a h => if_neg h
      have s1 : Same L L2 := fun a o h => by
        by_cases q : lent σ rs a
        · rw [h1 a q]; exact X.lh a o h
        · rw [h0 a q]; exact h
      have s2 : Same L2 H := fun a o h => by
        by_cases q : lent σ rs a
        · rw [h1 a q] at h; exact h
        · rw [h0 a q] at h; exact X.lh a o h
      refine ⟨Z.b, L2, ε.c, args, hn, ⟨s2, fun b hb => ⟨?_, (cz b hb).2⟩⟩, args_lent s1 r ha h1, hF _ _ _ _ (fun u c q => ?_) q⟩
      · rw [h0 b fun h => (X.bo b hb).2.2 (lent_own r h).2.1]; exact (cz b hb).1
      intro v L' H' z' e' r'
      obtain ⟨hi, q⟩ := q
      let L3 : Hp := fun a => if lent σ rs a then none else L' a
      have k1 : ∀ a, lent σ rs a → L3 a = none := fun a h => if_pos h
      have k0 : ∀ a, ¬ lent σ rs a → L3 a = L' a := fun a h => if_neg h
      have s3 : Same L3 H' := fun a o h => by
        by_cases q : lent σ rs a
        · rw [k1 a q] at h; cases h
        · rw [k0 a q] at h; exact z'.1 a o h
      have e3 : Ext Z.b L H L3 H' := by
        refine ⟨fun a o h => ?_, e'.hh, e'.dom, fun a h d => ?_⟩
        · by_cases q : lent σ rs a
          · rw [(lent_own r q).2.2.1] at h; cases h
          · rw [k0 a q]; exact e'.ll a o (s1 a o h)
        · by_cases q : lent σ rs a
          · exact k1 a q
          · rw [k0 a q]; exact e'.fr a (by rw [h0 a q]; exact h) d
      have tups : ∀ a xs, Sol L' a xs → Sol L3 a xs := fun a xs ⟨o, ho, h⟩ => by
        by_cases q : lent σ rs a
        · obtain ⟨_, _, _, ys, hy⟩ := lent_own r q
          have := e'.ll a _ (by rw [h1 a q]; exact hy)
          rw [this] at h; cases h
        · exact ⟨o, ho, by rw [k0 a q]; exact h⟩
      have r3 : VR0 H L3 H' v u := by
        cases u with
        | sh d => exact DV.imm tups d v hi r'
        | nw ds =>
          obtain ⟨a, xs, rfl, g1, g2, g3, g4⟩ := r'
          refine ⟨a, xs, rfl, g1, ?_, g3, DVs.imm tups ds xs hi g4⟩
          by_cases q : lent σ rs a
          · exact k1 a q
          · rw [k0 a q]; exact g2
        | dnw xs => cases hi
        | dsh xs => cases hi
        | _ => exact r'.elim
      exact q v L3 H' (X.exts e3 s3 fun b hb => (z'.2 b hb).2) (e.trans e3) ((r3.vr X).back e)
  · exact q.elim
end
section
variable {w : Wx} {K : PySem.W.Frag} {ta te : TE} {f : DTE}
def dCall (F : DSp) (f : DTA)  (ε : Env) (Q : R → Env → Prop) : Prop := f ε fun rs ε1 => dArgs F rs ε1 Q
theorem se_call {n : Nat} {F : DSp} {t : TA} {f : DTA} {E : XK} (hF : MonF F) (hf : SA w n t f) : SE w (tCall (spD n F) [] E t) (dCall F f) := by
  constructor
  · intro ε A B h q
    exact hf.mono _ _ _ (fun rs ε1 q => dArgs_mono hF h q) q
  · intro Z O σ ε L H Q X q
    refine hf.run Z O σ ε L H _ X (hf.mono _ _ _ (fun rs ε1 q => ?_) q)
    intro vs L1 H1 X1 e1 r1 hl np
    rw [List.append_nil]
    exact run_args hF X1 e1 r1 (by rw [r1.len, hl]) q
/-- all arguments by name, from the last one on -/
def tCallR (sp : Sp) (E : XK) (tk : TA) : TE := fun σ H Q => tk σ H fun zs H2 => sp zs.reverse H2 Q E
def dCallR (F : DSp) (f : DTA)  (ε : Env) (Q : R → Env → Prop) : Prop := f ε fun rs ε1 => dArgs F rs.reverse ε1 Q
theorem VRs.snoc {Z : Zx} {O : Addr → Prop} {σ : L2.St} {Hs L H : Hp} {v : V} {r : R} (x : VR w Z O σ Hs L H v r) : ∀ {vs : List V} {rs : List R}, VRs w Z O σ Hs L H vs rs → VRs w Z O σ Hs L H (vs ++ [v]) (rs ++ [r])
  | _, _, .nil => .cons x .nil
  | _, _, .cons a b => .cons a (VRs.snoc x b)
theorem VRs.rev {Z : Zx} {O : Addr → Prop} {σ : L2.St} {Hs L H : Hp} : ∀ {vs : List V} {rs : List R}, VRs w Z O σ Hs L H vs rs → VRs w Z O σ Hs L H vs.reverse rs.reverse
  | _, _, .nil => .nil
  | _, _, .cons a b => by rw [List.reverse_cons, List.reverse_cons]; exact VRs.snoc a (VRs.rev b)
theorem se_callR {n : Nat} {F : DSp} {t : TA} {f : DTA} {E : XK} (hF : MonF F) (hf : SA w n t f) : SE w (tCallR (spD n F) E t) (dCallR F f) := by
  constructor
  · intro ε A B h q
    exact hf.mono _ _ _ (fun rs ε1 q => dArgs_mono hF h q) q
  · intro Z O σ ε L H Q X q
    refine hf.run Z O σ ε L H _ X (hf.mono _ _ _ (fun rs ε1 q => ?_) q)
    intro vs L1 H1 X1 e1 r1 hl np
    exact run_args hF X1 e1 r1.rev (by rw [List.length_reverse, r1.len, hl]) q
def wipeE (ε : Env) : List Nat → List SV
  | [] => ε.s
  | v :: vs => (wipeE ε vs).set v .un
theorem wipe_get (σ : L2.St) (i : Nat) : ∀ vs : List Nat, (wipe σ vs)[i]? = if i ∈ vs then (if i < σ.length then some none else none) else σ[i]?
  | [] => by rw [if_neg List.not_mem_nil]; rfl
  | v :: vs => by
    unfold wipe
    rw [List.getElem?_set, wipe_length, wipe_get σ i vs]
    by_cases e : v = i
    · subst e
      rw [if_pos rfl, if_pos List.mem_cons_self]
    · rw [if_neg e]
      by_cases m : i ∈ vs
      · rw [if_pos m, if_pos (List.mem_cons_of_mem _ m)]
      · rw [if_neg m, if_neg (fun h => (List.mem_cons.mp h).elim (fun q => e q.symm) m)]
theorem wipe_but {σ σ' : L2.St} {vs : List Nat} (h : But vs (wipe σ vs) σ') : wipe σ' vs = wipe σ vs := by
  have hl : σ'.length = σ.length := by rw [h.1, wipe_length]
  refine List.ext_getElem? fun i => ?_
  rw [wipe_get, wipe_get]
  by_cases m : i ∈ vs
  · rw [if_pos m, if_pos m, hl]
  · rw [if_neg m, if_neg m, h.2 i m, wipe_get, if_neg m]
theorem wipeE_len (ε : Env) : ∀ vs : List Nat, (wipeE ε vs).length = ε.s.length
  | [] => rfl
  | v :: vs => by unfold wipeE; rw [List.length_set, wipeE_len ε vs]
theorem wipeE_get (ε : Env) (i : Nat) : ∀ (vs : List Nat) (x : SV), (wipeE ε vs)[i]? = some x → (i ∈ vs ∧ x = .un) ∨ (i ∉ vs ∧ ε.s[i]? = some x)
  | [], x, h => .inr ⟨List.not_mem_nil, h⟩
  | v :: vs, x, h => by
    unfold wipeE at h
    rcases get_set h with ⟨rfl, rfl, _⟩ | ⟨ne, h⟩
    · exact .inl ⟨List.mem_cons_self, rfl⟩
    · rcases wipeE_get ε i vs x h with ⟨m, e⟩ | ⟨m, e⟩
      · exact .inl ⟨List.mem_cons_of_mem _ m, e⟩
      · exact .inr ⟨fun q => (List.mem_cons.mp q).elim (fun z => ne z.symm) m, e⟩
theorem Rep.wipe {Z : Zx} {O : Addr → Prop} {σ : L2.St} {ε : Env} {L H : Hp} (x : Rep w Z O L H σ ε) (vs : List Nat) : Rep w Z O L H (L2.wipe σ vs) ⟨wipeE ε vs, ε.c⟩ := by
  refine ⟨x.lh, x.pn, x.ex, x.bo, x.oh, ?_, fun i y hy => ?_, fun i j y z a hij hy hz oy oz hi hj => ?_, x.ph⟩
  · show (L2.wipe σ vs).length = (wipeE ε vs).length
    rw [wipe_length, wipeE_len]; exact x.len
  · have hl : i < σ.length := by
      have := (List.getElem?_eq_some_iff.mp hy).1
      rw [wipeE_len] at this
      rw [x.len]; exact this
    rcases wipeE_get ε i vs y hy with ⟨m, rfl⟩ | ⟨m, e⟩
    · exact ⟨none, by rw [wipe_get, if_pos m, if_pos hl], trivial⟩
    · obtain ⟨o, h1, h2⟩ := x.sl i y e
      exact ⟨o, by rw [wipe_get, if_neg m]; exact h1, h2⟩
  · rcases wipeE_get ε i vs y hy with ⟨m, rfl⟩ | ⟨m, e⟩
    · cases oy
    · rcases wipeE_get ε j vs z hz with ⟨m', rfl⟩ | ⟨m', e'⟩
      · cases oz
      · rw [wipe_get, if_neg m] at hi
        rw [wipe_get, if_neg m'] at hj
        exact x.di i j y z a hij e e' oy oz hi hj
def lcD (γ : DTG) (c : DTT) (f : DTE) (vs : List Nat) (s : List SV) (Q : R → Env → Prop) : List PyData → List PyData → Nat → Prop
  | [], acc, n => Q (.nw acc) ⟨s, n⟩
  | d :: ds, acc, n => γ d ⟨wipeE ⟨s, n⟩ vs, n⟩ fun ε1 => c ε1 fun b ε2 => if b = true then f ε2 fun r ε3 => match r.pub with
      | .sh e => acc.length < sizeLine ∧ lcD γ c f vs s Q ds (acc ++ [e]) ε3.c
      | _ => False
    else lcD γ c f vs s Q ds acc ε2.c
def dLc (i : DTI) (γ : DTG) (c : DTT) (f : DTE) (vs : List Nat)  (ε : Env) (Q : R → Env → Prop) : Prop := i ε fun ds _ ε1 => lcD γ c f vs ε1.s Q ds [] ε1.c
theorem lcD_mono {pk : Bool} {g : TG} {γ : DTG} {tt : TT} {c : DTT} {js vs : List Nat} {s : List SV} {A B : R → Env → Prop} (hg : SG w pk js g γ) (hc : ST w tt c) (hf : SE w te f) (h : ∀ r ε, A r ε → B r ε) : ∀ (ds acc : List PyData) (n : Nat), lcD γ c f vs s A ds acc n → lcD γ c f vs s B ds acc n
  | [], acc, n, z => h _ _ z
  | d :: ds, acc, n, z => by
    refine hg.mono _ _ _ _ (fun ε1 z => hc.mono _ _ _ (fun b ε2 z => ?_) z) z
    cases b with
    | true =>
      rw [if_pos rfl] at z ⊢
      refine hf.mono _ _ _ (fun r ε3 z => ?_) z
      split at z
      · exact ⟨z.1, lcD_mono hg hc hf h ds _ _ z.2⟩
      · exact z.elim
    | false =>
      rw [if_neg Bool.false_ne_true] at z ⊢
      exact lcD_mono hg hc hf h ds _ _ z
theorem se_lc {pk : Bool} {wi : TI} {i : DTI} {g : TG} {γ : DTG} {tt : TT} {c : DTT} {vs : List Nat} (hi : SI w pk wi i) (hg : SG w pk vs g γ) (hc : ST w tt c) (hf : SE w te f) : SE w (tLc wi g tt te vs) (dLc i γ c f vs) := by
  constructor
  · intro ε A B h z
    exact hi.mono _ _ _ (fun ds b ε1 z => lcD_mono hg hc hf h ds [] _ z) z
  · intro Z O σ ε L H Q X z
    refine hi.run Z O σ ε L H _ X (hi.mono _ _ _ (fun ds b ε1 z => ?_) z)
    intro J L1 H1 X1 e1 W _ D nD
    have eD : Ext none L1 H1 L1 (upd H1 D (.lst [])) := Ext.own nD
    have X1' := X1.step eD (same_own X1.lh (X1.lh.free nD))
    have n0 : Z.H0 D = none := X1.ex.free nD
    have nO : ¬ O D := fun o => (X1.oh D o).1 nD
    have bD : Z.b ≠ some D := X1.nob n0
    refine ⟨fun k m H2 => k + m = ds.length ∧ ∃ L2 n acc xs, Rep w Z O L2 H2 σ ⟨ε1.s, n⟩ ∧ Ext Z.b L1 H1 L2 H2 ∧ H2 D = some (.lst xs) ∧ DVs L2 xs acc ∧ L2 D = none ∧ lcD γ c f vs ε1.s (fun r ε' => ∀ v L' H', Rep w Z O L' H' σ ε' → Ext Z.b L H L' H' → VR w Z O σ H L' H' v r → Q v H') (ds.drop k) acc n,
      ⟨ds.length, by omega, L1, ε1.c, [], [], X1', eD.any, upd_same, .nil, X1.lh.free nD, by rw [List.drop_zero]; exact z⟩, ?_⟩
    rintro k m H2 ⟨hkm, L2, n, acc, xs, X2, e2, hD, rD, lD, z2⟩
    have e2' := e2
    by_cases hlt : k < ds.length
    · refine .inr ⟨W.go k L2 H2 e2' X2.lh hlt, fun H' => ∃ L2 n acc xs, Rep w Z O L2 H' σ ⟨ε1.s, n⟩ ∧ Ext Z.b L1 H1 L2 H' ∧ H' D = some (.lst xs) ∧ DVs L2 xs acc ∧ L2 D = none ∧ lcD γ c f vs ε1.s (fun r ε' => ∀ v L' H', Rep w Z O L' H' σ ε' → Ext Z.b L H L' H' → VR w Z O σ H L' H' v r → Q v H') (ds.drop (k + 1)) acc n,
        fun H' q => ⟨m - 1, by omega, by omega, q⟩, fun x H' y => ?_⟩
      have hd : ds[k]? = some ds[k] := List.getElem?_eq_getElem hlt
      rw [List.drop_eq_getElem_cons hlt] at z2
      obtain ⟨L3, e3, s3, r3⟩ := W.yld k ds[k] L2 H2 x H' e2' X2.lh hd y
      have X3 := X2.step e3 s3
      have hD3 := e3.hh D _ hD (fun z => nomatch z)
      have lD3 : L3 D = none := e3.fr D lD (by rw [hD]; exact (fun z => nomatch z))
      refine hg.run Z O _ _ L3 H' x ds[k] _ (X3.wipe vs) r3 (hg.mono _ _ _ _ (fun ε3 z3 σ3 X4 b3 => ⟨wipe_but b3, ?_⟩) z2)
      refine hc.run Z O σ3 ε3 L3 H' _ X4 (hc.mono _ _ _ (fun b ε4 z4 => ?_) z3)
      intro L5 H5 X5 e5
      have hD5 := e5.hh D _ hD3 bD
      have lD5 : L5 D = none := e5.fr D lD3 (by rw [hD3]; exact (fun z => nomatch z))
      have e35 := (e3.any (b := Z.b)).trans e5
      cases b with
      | true =>
        rw [if_pos rfl] at z4 ⊢
        refine hf.run Z O σ3 ε4 L5 H5 _ X5 (hf.mono _ _ _ (fun r ε6 z6 => ?_) z4)
        intro v L6 H6 X6 e6 r6
        split at z6
        · rename_i d' hd'
          obtain ⟨L7, X7, e7, r7⟩ := publ X6 e6 r6
          rw [hd'] at r7
          have hD6 := e7.hh D _ hD5 bD
          have lD7 : L7 D = none := e7.fr D lD5 (by rw [hD5]; exact (fun z => nomatch z))
          have et := e35.trans e7
          have rD7 : DVs L7 xs acc := rD.to et.ll
          have X8 : Rep w Z O L7 H6 σ ⟨ε1.s, ε6.c⟩ := X2.exts et X7.lh fun b hb => (X7.bo b hb).2.1
          refine ⟨xs, hD6, by rw [rD7.len]; exact z6.1, L7, ε6.c, acc ++ [d'], xs ++ [v], ?_, ?_, upd_same, rD7.app (.one r7), lD7, z6.2⟩
          · refine ⟨same_own X8.lh lD7, X8.pn, ⟨X8.ex.ll, fun a o h nb => ?_, fun a h => ?_, X8.ex.fr⟩, fun b hb => ?_, fun a h => ⟨?_, (X8.oh a h).2⟩, X8.len, fun i y hy => ?_, X8.di, X8.ph⟩
            · rw [upd_ne (ne_of_none h n0)]; exact X8.ex.hh a o h nb
            · by_cases q : a = D
              · rw [q, upd_same]; exact (fun z => nomatch z)
              · rw [upd_ne q]; exact X8.ex.dom a h
            · obtain ⟨q1, q2, q3⟩ := X8.bo b hb
              exact ⟨q1, q2.keep (upd_ne (ne_at q3 n0)), q3⟩
            · rw [upd_ne (fun q => nO (by rw [← q]; exact h))]; exact (X8.oh a h).1
            · obtain ⟨o, q1, q2⟩ := X8.sl i y hy
              refine ⟨o, q1, ?_⟩
              cases y with
              | ow ds =>
                obtain ⟨a, ys, g1, g2, g3, g4, g5, g6⟩ := q2
                exact ⟨a, ys, g1, g2, g3, g4, by rw [upd_ne (fun q => nO (by rw [← q]; exact g2))]; exact g5, g6⟩
              | st S n =>
                obtain ⟨a, g1, g2, g3, g4, g5⟩ := q2
                exact ⟨a, g1, g2, g3, g4, by rw [upd_ne (fun q => nO (by rw [← q]; exact g2))]; exact g5⟩
              | dco xs =>
                obtain ⟨a, g1, g2, g3, g4, ⟨ob, g5⟩, g6⟩ := q2
                exact ⟨a, g1, g2, g3, g4, ⟨ob, by rw [upd_ne (fun q => nO (by rw [← q]; exact g2))]; exact g5⟩, g6⟩
              | sto M =>
                obtain ⟨a, A, g1, g2, g3, g4, g5, g6⟩ := q2
                exact ⟨a, A, g1, g2, g3, g4, by rw [upd_ne (fun q => nO (by rw [← q]; exact g2))]; exact g5, g6⟩
              | _ => exact q2
          · have e27 := e2.trans et
            refine ⟨e27.ll, fun a o h nb => ?_, fun a h => ?_, e27.fr⟩
            · rw [upd_ne (ne_of_none h nD)]; exact e27.hh a o h nb
            · by_cases q : a = D
              · rw [q, upd_same]; exact (fun z => nomatch z)
              · rw [upd_ne q]; exact e27.dom a h
        · exact z6.elim
      | false =>
        rw [if_neg Bool.false_ne_true] at z4 ⊢
        have X8 : Rep w Z O L5 H5 σ ⟨ε1.s, ε4.c⟩ := X2.exts e35 X5.lh fun b hb => (X5.bo b hb).2.1
        exact ⟨L5, ε4.c, acc, xs, X8, e2.trans e35, hD5, rD.to e35.ll, lD5, z4⟩
    · have e : k = ds.length := by omega
      subst e
      rw [List.drop_length] at z2
      refine .inl ⟨W.stop L2 H2 e2' X2.lh, z2 _ L2 H2 X2 (e1.trans e2') ⟨D, xs, rfl, e1.free nD, nO, n0, lD, hD, rD⟩⟩
def env0 (args : List SV) (k : Nat) (c : Nat) : Env := ⟨args ++ List.replicate k .un, c⟩
def defF (k : Nat) (p : DTS) (args : List SV) (c : Nat) (Q : R → Nat → Prop) : Prop := p { nx := fun ε => Q (.sh .none) ε.c, rt := fun r ε => Q r ε.c } (env0 args k c)
theorem ArgsR.len {b : Option Addr} {L : Hp} : ∀ {vs : List V} {xs : List SV}, ArgsR b L vs xs → vs.length = xs.length
  | _, _, .nil => rfl
  | _, _, .cons _ r => by rw [List.length_cons, List.length_cons, r.len]
theorem ArgsR.get {b : Option Addr} {L : Hp} : ∀ {vs : List V} {xs : List SV} {i : Nat} {x : SV}, ArgsR b L vs xs → xs[i]? = some x → ∃ v, vs[i]? = some v ∧ ArgR b L v x
  | _, _, _, _, .nil, e => by simp at e
  | _, _, 0, _, .cons a _, e => by simp at e; subst e; exact ⟨_, rfl, a⟩
  | _, _, i + 1, x, .cons _ r, e => by
    obtain ⟨v, h1, h2⟩ := ArgsR.get (i := i) (x := x) r (by simpa using e)
    exact ⟨v, by simpa using h1, h2⟩
theorem rep_start {N : List Str} {b : Option Addr} {L H : Hp} {c k : Nat} {vs : List V} {args : List SV} (z : CallZ b L H c) (a : ArgsR b L vs args) (hk : N.length = vs.length + k) (ph : w.Φ ⟨b, L, H, fun _ => none⟩) : Rep w ⟨b, L, H, fun _ => none⟩ (fun _ => False) L H (start N vs) (env0 args k c) := by
  have hl := a.len
  have un : ∀ (i : Nat) (x : SV), (env0 args k c).s[i]? = some x → (∃ v, vs[i]? = some v ∧ ArgR b L v x) ∨ (vs.length ≤ i ∧ x = .un) := by
    intro i x hx
    have hx : (args ++ List.replicate k SV.un)[i]? = some x := hx
    by_cases hi : i < args.length
    · rw [List.getElem?_append_left hi] at hx
      exact .inl (a.get hx)
    · rw [List.getElem?_append_right (by omega)] at hx
      have := List.mem_of_getElem? hx
      exact .inr ⟨by omega, List.eq_of_mem_replicate this⟩
  have nown : ∀ (i : Nat) (x : SV), (env0 args k c).s[i]? = some x → Own x = true → False := by
    intro i x hx ho
    rcases un i x hx with ⟨v, _, r⟩ | ⟨_, rfl⟩
    · cases x with
      | ow ds => exact r
      | st S n => exact r
      | dco xs => exact r
      | sto M => exact r
      | _ => cases ho
    · cases ho
  refine ⟨z.1, (fun _ _ h => nomatch h), Ext.refl _ _ _, fun d hd => ⟨(z.2 d hd).1, (z.2 d hd).2, (z.2 d hd).2.there⟩, fun _ h => h.elim, ?_, fun i x hx => ?_, fun i j x y d _ hx _ ox => (nown i x hx ox).elim, ph⟩
  · show (start N vs).length = (args ++ List.replicate k SV.un).length
    unfold L2.start
    rw [List.length_append, List.length_map, List.length_replicate, List.length_append, List.length_replicate]
    omega
  · have hi : i < vs.length + k := by
      have := (List.getElem?_eq_some_iff.mp hx).1
      have e : (env0 args k c).s.length = args.length + k := by
        show (args ++ List.replicate k SV.un).length = _
        rw [List.length_append, List.length_replicate]
      omega
    rcases un i x hx with ⟨v, h1, r⟩ | ⟨h1, rfl⟩
    · have hv : i < vs.length := (List.getElem?_eq_some_iff.mp h1).1
      refine ⟨some v, ?_, ?_⟩
      · unfold L2.start
        rw [List.getElem?_append_left (by rw [List.length_map]; exact hv), List.getElem?_map, h1]; rfl
      · cases x with
        | sh d => exact ⟨v, rfl, r⟩
        | bx =>
          obtain ⟨d, h2, rfl⟩ := r
          exact ⟨d, h2, rfl⟩
        | raw u =>
          cases (show v = u from r)
          rfl
        | _ => exact r.elim
    · refine ⟨none, ?_, trivial⟩
      unfold L2.start
      rw [List.getElem?_append_right (by rw [List.length_map]; exact h1), List.getElem?_replicate, if_pos (by rw [List.length_map]; omega)]
end
section
variable {P : Program} {w : World} {K : PySem.W.Frag} {mg : Str → Option Value} {base : Heap}
theorem run_def {N ps : List Str} {t : TS} {p : DTS} {k : Nat} (hp : SS (W0 w) t p) (hk : N.length = ps.length + k) {vs : List V} {H : Hp} {Q : VK} {E : XK} (h : spD ps.length (defF k p) vs H Q E) : t { nx := fun _ H' => Q .non H', rt := Q } (start N vs) H := by
  obtain ⟨b, L, c, args, hn, z, a, q⟩ := h
  refine hp.run _ _ _ _ L H _ _ (rep_start (w := W0 w) z a (by omega) trivial) ?_ q
  refine ⟨fun O σ ε L' H' X q => ?_, fun O σ ε L' H' v r X hr q => ?_, fun O σ ε L' H' X q => q.elim, fun O σ ε L' H' X q => q.elim⟩
  · exact q .non L' H' ⟨X.lh, fun a ha => ⟨(X.bo a ha).1, (X.bo a ha).2.1⟩⟩ X.ex DV.non
  · exact q v L' H' ⟨X.lh, fun a ha => ⟨(X.bo a ha).1, (X.bo a ha).2.1⟩⟩ X.ex hr
theorem spD_len {n : Nat} {F : DSp} {vs : List V} {H : Hp} {Q : VK} {E : XK} (h : spD n F vs H Q E) : vs.length = n := by
  obtain ⟨b, L, c, args, hn, _⟩ := h
  exact hn
theorem spD_imp {n : Nat} {F G : DSp} (h : ∀ args c Q, F args c Q → G args c Q) {vs : List V} {H : Hp} {Q : VK} {E : XK} (x : spD n F vs H Q E) : spD n G vs H Q E := by
  obtain ⟨b, L, c, args, hn, z, a, q⟩ := x
  exact ⟨b, L, c, args, hn, z, a, h _ _ _ q⟩
/-- a def by its data -/
theorem okD {x qual : Str} {st : Stmt} {f : Addr} {fd : FuncData} {N ps : List Str} {k j : Nat} {p : DTS} {F : DSp} (G : Fun K x qual st f fd) (S : FnScope N ps (defScope st)) (hj : N.length = ps.length + j)
    (body : ∀ (cdv : Value) (A : Around) (outer : List PySem.Env) (s : Shared) (H : Hp) (E : XK), Room k (A.deeper (envOfC qual (defScope st) s.heap.objs.size f cdv)) → ∃ t, PSs (cxOf CX0 P w K mg base N qual (defScope st) f cdv A outer s H E).nox (defBody st) t ∧ SS (W0 w) t p)
    (h : ∀ args c Q, F args c Q → defF j p args c Q) : FnOk P w K mg base CX0 (k + 1) f fd ps (spD ps.length F) := by
  refine G.ok S (fun vs H Q E h => spD_len h) fun cdv A outer s H vs Q E hr q => ?_
  obtain ⟨t, ht, hs⟩ := body cdv A outer s H E hr
  exact ⟨t, ht, run_def hs hj (spD_imp h q)⟩
end
end Lp

namespace Lp
open PySem PySem.Spec PyProof.Rows L2
theorem op_or {X : Cx} {f : Value → Value → Sem Value} {r r' : R2} (h : OpR X f r) (h' : OpR X f r') : OpR X f (fun x y H Q => r x y H Q ∨ r' x y H Q) :=
  fun pins s σ H x y v u Q I rx ry q => q.elim (h pins s σ H x y v u Q I rx ry) (h' pins s σ H x y v u Q I rx ry)
theorem cr_or {X : Cx} {f : Value} {r r' : List V → Hp → VK → Prop} (h : CallR X f r) (h' : CallR X f r') : CallR X f (fun x H Q => r x H Q ∨ r' x H Q) :=
  fun pins s σ H xs us Q I rx q => q.elim (h pins s σ H xs us Q I rx) (h' pins s σ H xs us Q I rx)
theorem sl_or {X : Cx} {r r' : V → Option Int → Option Int → Hp → VK → Prop} (h : SlR X r) (h' : SlR X r') : SlR X (fun x l u H Q => r x l u H Q ∨ r' x l u H Q) := by
  intro pins s σ H x v vl vu lo hi sl Q I rx hs pl pu q
  rcases q with q | q
  · exact h pins s σ H x v vl vu lo hi sl Q I rx hs pl pu q
  · exact h' pins s σ H x v vl vu lo hi sl Q I rx hs pl pu q
/-- ints in, an int out -/
def φI (h : Int → Int → Int)  (x y : PyData) (Q : R → Prop) : Prop := match x, y with
  | .int i, .int j => Q (.sh (.int (h i j)))
  | _, _ => False
def φB (h : Int → Int → Bool)  (x y : PyData) (Q : R → Prop) : Prop := match x, y with
  | .int i, .int j => Q (.sh (.bool (h i j)))
  | _, _ => False
def φC (C : Int → Int → Prop) (h : Int → Int → Int)  (x y : PyData) (Q : R → Prop) : Prop := match x, y with
  | .int i, .int j => C i j ∧ Q (.sh (.int (h i j)))
  | _, _ => False
theorem r2_I {h : Int → Int → Int} : R2K (rI0 fun i j => .int (h i j)) (φI h) := by
  constructor
  · intro x y A B hAB q
    unfold φI at q ⊢
    split at q
    · exact hAB _ q
    · exact q.elim
  · intro L H x y dx dy Q s hx hy q
    unfold φI at q
    split at q
    · exact ⟨_, _, hx.int, hy.int, q _ L H (Ext.refl _ _ _) s (.int _)⟩
    · exact q.elim
theorem r2_B {h : Int → Int → Bool} : R2K (rI0 fun i j => .bl (h i j)) (φB h) := by
  constructor
  · intro x y A B hAB q
    unfold φB at q ⊢
    split at q
    · exact hAB _ q
    · exact q.elim
  · intro L H x y dx dy Q s hx hy q
    unfold φB at q
    split at q
    · exact ⟨_, _, hx.int, hy.int, q _ L H (Ext.refl _ _ _) s (.bl _)⟩
    · exact q.elim
theorem r2_C {C : Int → Int → Prop} {h : Int → Int → Int} : R2K (rI C fun i j => .int (h i j)) (φC C h) := by
  constructor
  · intro x y A B hAB q
    unfold φC at q ⊢
    split at q
    · exact ⟨q.1, hAB _ q.2⟩
    · exact q.elim
  · intro L H x y dx dy Q s hx hy q
    unfold φC at q
    split at q
    · exact ⟨_, _, hx.int, hy.int, q.1, q.2 _ L H (Ext.refl _ _ _) s (.int _)⟩
    · exact q.elim
def φNeg (x : PyData) (Q : R → Prop) : Prop := match x with
  | .int i => Q (.sh (.int (-i)))
  | _ => False
theorem ru_neg : RUK (rU fun i => .int (-i)) φNeg := by
  constructor
  · intro x A B hAB q
    cases x <;> first | exact hAB _ q | exact q.elim
  · intro L H x dx Q s hx q
    cases dx <;> first | exact ⟨_, hx.int, q _ L H (Ext.refl _ _ _) s (.int _)⟩ | exact q.elim
abbrev rAdd (K : PySem.W.Frag) : R2 := fun x y H Q => rI0 (fun i j => .int (i + j)) x y H Q ∨ (rCat x y H Q ∨ rCatS K x y H Q)
theorem op_addA {X : Cx} : OpR X (binaryOp .Add) (rAdd X.K) := op_or op_add (op_or op_cat op_catS)
def φAdd  (x y : PyData) (Q : R → Prop) : Prop := match x, y with
  | .int i, .int j => Q (.sh (.int (i + j)))
  | .list a, .list b => a.length + b.length ≤ sizeLine ∧ Q (.nw (a ++ b))
  | .tuple a, .tuple b => a.length + b.length ≤ sizeLine ∧ Q (.sh (.tuple (a ++ b)))
  | _, _ => False
theorem DVs.nil_iff {H : Hp} {vs : List V} {ds : List PyData} (h : DVs H vs ds) : vs = [] ↔ ds = [] := by
  cases h with
  | nil => exact ⟨fun _ => rfl, fun _ => rfl⟩
  | cons _ _ => exact ⟨(fun z => nomatch z), (fun z => nomatch z)⟩
theorem r2_add {K : PySem.W.Frag} : R2K (rAdd K) φAdd := by
  constructor
  · intro x y A B hAB q
    unfold φAdd at q ⊢
    split at q
    · exact hAB _ q
    · exact ⟨q.1, hAB _ q.2⟩
    · exact ⟨q.1, hAB _ q.2⟩
    · exact q.elim
  · intro L H x y dx dy Q s hx hy q
    unfold φAdd at q
    split at q
    · exact .inl ⟨_, _, hx.int, hy.int, q _ L H (Ext.refl _ _ _) s (.int _)⟩
    · obtain ⟨a, xs, rfl, h1, h2⟩ := hx.lst s
      obtain ⟨b, ys, rfl, h3, h4⟩ := hy.lst s
      refine .inr (.inl ⟨a, b, xs, ys, rfl, rfl, h1, h3, by rw [h2.len, h4.len]; exact q.1, fun p np => ?_⟩)
      exact q.2 _ L _ (Ext.own np) (same_own s (s.free np)) ⟨p, _, rfl, np, s.free np, upd_same, h2.app h4⟩
    · obtain ⟨a, xs, rfl, h1, h2⟩ := hx.tup
      obtain ⟨b, ys, rfl, h3, h4⟩ := hy.tup
      refine .inr (.inr ⟨a, b, xs, ys, rfl, rfl, (h1.to s).seq, (h3.to s).seq, by rw [h2.len, h4.len]; exact q.1, fun e => ?_, fun e => ?_, fun p o np no => ?_⟩)
      · have e2 := h2.nil_iff.mp e
        rw [e2, List.nil_append] at q
        exact q.2 _ L H (Ext.refl _ _ _) s (.tup h3 h4)
      · have e2 := h4.nil_iff.mp e
        rw [e2, List.append_nil] at q
        exact q.2 _ L H (Ext.refl _ _ _) s (.tup h1 h2)
      · have e1 : Ext none L H (upd L p (.frz o (.tup (xs ++ ys)))) (upd H p (.frz o (.tup (xs ++ ys)))) := Ext.new s np
        exact q.2 _ _ _ e1 (same_both s) (.tup ⟨o, no, upd_same⟩ ((h2.app h4).to e1.ll))
    · exact q.elim
abbrev rMulA : R2 := fun x y H Q => rI CMulW (fun i j => .int (i * j)) x y H Q ∨ rRep x y H Q
theorem op_mulA {X : Cx} : OpR X (binaryOp .Mult) rMulA := op_or op_mulW op_rep
def φMul  (x y : PyData) (Q : R → Prop) : Prop := match x, y with
  | .int i, .int j => CMulW i j ∧ Q (.sh (.int (i * j)))
  | .list a, .int k => (-(2 ^ 63) ≤ k ∧ k < 2 ^ 63 ∧ a.length * k.toNat ≤ sizeLine) ∧ Q (.nw (List.replicate k.toNat a).flatten)
  | _, _ => False
theorem DVs.rep {H : Hp} {vs : List V} {ds : List PyData} (h : DVs H vs ds) : ∀ n : Nat, DVs H (List.replicate n vs).flatten (List.replicate n ds).flatten
  | 0 => .nil
  | n + 1 => by rw [List.replicate_succ, List.replicate_succ, List.flatten_cons, List.flatten_cons]; exact h.app (h.rep n)
theorem r2_mul : R2K rMulA φMul := by
  constructor
  · intro x y A B hAB q
    unfold φMul at q ⊢
    split at q
    · exact ⟨q.1, hAB _ q.2⟩
    · exact ⟨q.1, hAB _ q.2⟩
    · exact q.elim
  · intro L H x y dx dy Q s hx hy q
    unfold φMul at q
    split at q
    · exact .inl ⟨_, _, hx.int, hy.int, q.1, q.2 _ L H (Ext.refl _ _ _) s (.int _)⟩
    · obtain ⟨a, xs, rfl, h1, h2⟩ := hx.lst s
      refine .inr ⟨a, _, xs, rfl, hy.int, h1, q.1.1, q.1.2.1, by rw [h2.len]; exact q.1.2.2, fun p np => ?_⟩
      exact q.2 _ L _ (Ext.own np) (same_own s (s.free np)) ⟨p, _, rfl, np, s.free np, upd_same, h2.rep _⟩
    · exact q.elim
def PyData.its : PyData → Option (List PyData)
  | .list ds => some ds
  | .tuple ds => some ds
  | _ => none
def φIx  (x y : PyData) (Q : R → Prop) : Prop := match PyData.its x, y with
  | some ds, .int i => ∃ d, atI ds i = some d ∧ Q (.sh d)
  | _, _ => False
theorem atI_dv {H : Hp} {vs : List V} {ds : List PyData} {i : Int} {d : PyData} (h : DVs H vs ds) (e : atI ds i = some d) : ∃ v, atI vs i = some v ∧ DV H v d := by
  unfold atI at e ⊢
  rw [← h.len] at e
  cases hx : ixN vs.length i with
  | none => rw [hx] at e; cases e
  | some j =>
    rw [hx] at e
    exact h.get e
theorem r2_ix {K : PySem.W.Frag} : R2K (rIx K) φIx := by
  constructor
  · intro x y A B hAB q
    unfold φIx at q ⊢
    split at q
    · obtain ⟨d, h1, h2⟩ := q
      exact ⟨d, h1, hAB _ h2⟩
    · exact q.elim
  · intro L H x y dx dy Q s hx hy q
    unfold φIx at q
    split at q
    · rename_i ds i hd
      obtain ⟨d, e, q⟩ := q
      cases dx with
      | list es =>
        cases hd
        obtain ⟨a, xs, rfl, h1, h2⟩ := hx.lst s
        obtain ⟨v, h3, h4⟩ := atI_dv h2 e
        exact .inl ⟨a, xs, i, v, rfl, hy.int, SqL.of h1, h3, q v L H (Ext.refl _ _ _) s h4⟩
      | tuple es =>
        cases hd
        obtain ⟨a, xs, rfl, h1, h2⟩ := hx.tup
        obtain ⟨v, h3, h4⟩ := atI_dv h2 e
        exact .inr (.inl ⟨a, xs, i, v, rfl, hy.int, (h1.to s).seq, h3, q v L H (Ext.refl _ _ _) s h4⟩)
      | _ => cases hd
    · exact q.elim
mutual
theorem DV.uniq {H : Hp} : ∀ {v : V} (d e : PyData), DV H v d → DV H v e → d = e
  | _, .none, _, .non, h => by cases h; rfl
  | _, .bool _, _, .bl _, h => by cases h; rfl
  | _, .int _, _, .int _, h => by cases h; rfl
  | _, .str _, _, .str _, h => by cases h; rfl
  | _, .list ds, e, .lst h1 h2, h => by
    cases h with
    | lst g1 g2 =>
      rw [h1] at g1
      cases g1
      rw [DVs.uniq' ds _ h2 g2]
    | tup g1 g2 =>
      obtain ⟨o, _, g⟩ := g1
      rw [h1] at g; cases g
  | _, .tuple ds, e, .tup h1 h2, h => by
    cases h with
    | tup g1 g2 =>
      cases h1.inj g1
      rw [DVs.uniq' ds _ h2 g2]
    | lst g1 g2 =>
      obtain ⟨o, _, g⟩ := h1
      rw [g] at g1; cases g1
theorem DVs.uniq' {H : Hp} : ∀ {vs : List V} (ds es : List PyData), DVs H vs ds → DVs H vs es → ds = es
  | _, [], _, .nil, h => by cases h; rfl
  | _, d :: ds, _, .cons h1 h2, h => by
    cases h with
    | cons g1 g2 => rw [DV.uniq d _ h1 g1, DVs.uniq' ds _ h2 g2]
end
theorem DVs.uniq {H : Hp} {vs : List V} {ds es : List PyData} (h : DVs H vs ds) (k : DVs H vs es) : ds = es := DVs.uniq' ds es h k
def cutD (ds : List PyData) (lo hi : Option Int) : List PyData := (ds.drop (HT.sIx ds.length 0 lo)).take (HT.sIx ds.length ds.length hi - HT.sIx ds.length 0 lo)
theorem cut_dv {H : Hp} {vs : List V} {ds : List PyData} (h : DVs H vs ds) (lo hi : Option Int) : DVs H (cutV vs lo hi) (cutD ds lo hi) := by
  unfold cutV cutD
  rw [h.len]
  exact (h.drop _).take _
def φSl (x : PyData) (l h : Option Int) (Q : R → Prop) : Prop := match x with
  | .list ds => Q (.nw (cutD ds l h))
  | .tuple ds => Q (.sh (.tuple (cutD ds l h)))
  | _ => False
abbrev rSlB (K : PySem.W.Frag) : V → Option Int → Option Int → Hp → VK → Prop := fun x l u H Q => rSlL K x l u H Q ∨ rSlS K x l u H Q
theorem sl_both {X : Cx} : SlR X (rSlB X.K) := sl_or sl_list sl_tupS
theorem rs_sl {K : PySem.W.Frag} : RSK (rSlB K) φSl := by
  constructor
  · intro x l h A B hAB q
    cases x <;> first | exact hAB _ q | exact q.elim
  · intro L H x d l h Q s hx q
    cases d with
    | list ds =>
      obtain ⟨a, xs, rfl, h1, h2⟩ := hx.lst s
      exact .inl ⟨a, xs, rfl, SqL.of h1, fun p np => q _ L _ (Ext.own np) (same_own s (s.free np)) ⟨p, _, rfl, np, s.free np, upd_same, cut_dv h2 l h⟩⟩
    | tuple ds =>
      obtain ⟨a, xs, rfl, h1, h2⟩ := hx.tup
      refine .inr ⟨a, xs, rfl, (h1.to s).seq, fun e => ?_, fun p o np no => ?_⟩
      · have e2 : cutD ds l h = ds := by
          have k1 := cut_dv h2 l h
          rw [e] at k1
          exact DVs.uniq k1 h2
        have q2 : (fun r => ∀ v L' H', Ext none L H L' H' → Same L' H' → VR0 H L' H' v r → Q v H') (.sh (.tuple ds)) := by
          rw [← e2]; exact q
        exact q2 _ L H (Ext.refl _ _ _) s (.tup h1 h2)
      · have e1 : Ext none L H (upd L p (.frz o (.tup (cutV xs l h)))) (upd H p (.frz o (.tup (cutV xs l h)))) := Ext.new s np
        exact q _ _ _ e1 (same_both s) (.tup ⟨o, no, upd_same⟩ ((cut_dv h2 l h).to e1.ll))
    | _ => exact q.elim
abbrev rEqI : R2 := rI0 fun i j => .bl (decide (i = j))
theorem op_eqI {X : Cx} : OpR X (compareOp .Eq) rEqI := fun pins s σ H x y v u Q I rx ry q => by
  obtain ⟨i, j, rfl, rfl, q⟩ := q
  refine op_eq pins s σ H _ _ v u Q I rx ry ⟨rfl, ?_⟩
  have e : decide (V.int i = V.int j) = decide (i = j) := by simp
  rw [e]; exact q
abbrev rNeI : R2 := rI0 fun i j => .bl (!decide (i = j))
theorem op_neI {X : Cx} : OpR X (compareOp .NotEq) rNeI := fun pins s σ H x y v u Q I rx ry q => by
  obtain ⟨i, j, rfl, rfl, q⟩ := q
  refine op_ne pins s σ H _ _ v u Q I rx ry ⟨rfl, ?_⟩
  have e : decide (V.int i = V.int j) = decide (i = j) := by simp
  rw [e]; exact q
/-- two texts -/
abbrev rEqS : R2 := fun x y H Q => ∃ a b : Str, x = .str a ∧ y = .str b ∧ Q (.bl (decide (a = b))) H
theorem op_eqS {X : Cx} : OpR X (compareOp .Eq) rEqS := fun pins s σ H x y v u Q I rx ry q => by
  obtain ⟨i, j, rfl, rfl, q⟩ := q
  refine op_eq pins s σ H _ _ v u Q I rx ry ⟨rfl, ?_⟩
  have e : decide (V.str i = V.str j) = decide (i = j) := by simp
  rw [e]; exact q
abbrev rNeS : R2 := fun x y H Q => ∃ a b : Str, x = .str a ∧ y = .str b ∧ Q (.bl (!decide (a = b))) H
theorem op_neS {X : Cx} : OpR X (compareOp .NotEq) rNeS := fun pins s σ H x y v u Q I rx ry q => by
  obtain ⟨i, j, rfl, rfl, q⟩ := q
  refine op_ne pins s σ H _ _ v u Q I rx ry ⟨rfl, ?_⟩
  have e : decide (V.str i = V.str j) = decide (i = j) := by simp
  rw [e]; exact q
abbrev rEqA (K : PySem.W.Frag) : R2 := fun x y H Q => rEqI x y H Q ∨ (rEqS x y H Q ∨ rEqD K x y H Q)
abbrev rNeA (K : PySem.W.Frag) : R2 := fun x y H Q => rNeI x y H Q ∨ (rNeS x y H Q ∨ rNeD K x y H Q)
theorem op_eqA {X : Cx} (hu : X.A.units + 64 < cLine) : OpR X (compareOp .Eq) (rEqA X.K) := op_or op_eqI (op_or op_eqS (op_eqD hu))
theorem op_neA {X : Cx} (hu : X.A.units + 64 < cLine) : OpR X (compareOp .NotEq) (rNeA X.K) := op_or op_neI (op_or op_neS (op_neD hu))
def φEq (neg : Bool)  (x y : PyData) (Q : R → Prop) : Prop := match x, y with
  | .int i, .int j => Q (.sh (.bool (if neg then !decide (i = j) else decide (i = j))))
  | .str i, .str j => Q (.sh (.bool (if neg then !decide (i = j) else decide (i = j))))
  | x, y => (SeqAt.shaped x = true ∧ SeqAt.shaped y = true) ∧ Q (.sh (.bool (if neg then !PyData.eqv x y else PyData.eqv x y)))
theorem φEq_mono {neg : Bool} {x y : PyData} {A B : R → Prop} (hAB : ∀ r, A r → B r) (q : φEq neg x y A) : φEq neg x y B := by
  cases x <;> cases y <;> first | exact hAB _ q | exact ⟨q.1, hAB _ q.2⟩
theorem r2_eq {K : PySem.W.Frag} : R2K (rEqA K) (φEq false) := by
  constructor
  · intro x y A B hAB q
    exact φEq_mono hAB q
  · intro L H x y dx dy Q s hx hy q
    unfold φEq at q
    split at q
    · exact .inl ⟨_, _, hx.int, hy.int, q _ L H (Ext.refl _ _ _) s (.bl _)⟩
    · exact .inr (.inl ⟨_, _, hx.str, hy.str, q _ L H (Ext.refl _ _ _) s (.bl _)⟩)
    · exact .inr (.inr ⟨_, _, DV.dp _ _ (hx.dv s), DV.dp _ _ (hy.dv s), q.1.1, q.1.2, q.2 _ L H (Ext.refl _ _ _) s (.bl _)⟩)
theorem r2_ne {K : PySem.W.Frag} : R2K (rNeA K) (φEq true) := by
  constructor
  · intro x y A B hAB q
    exact φEq_mono hAB q
  · intro L H x y dx dy Q s hx hy q
    unfold φEq at q
    split at q
    · exact .inl ⟨_, _, hx.int, hy.int, q _ L H (Ext.refl _ _ _) s (.bl _)⟩
    · exact .inr (.inl ⟨_, _, hx.str, hy.str, q _ L H (Ext.refl _ _ _) s (.bl _)⟩)
    · exact .inr (.inr ⟨_, _, DV.dp _ _ (hx.dv s), DV.dp _ _ (hy.dv s), q.1.1, q.1.2, q.2 _ L H (Ext.refl _ _ _) s (.bl _)⟩)
def isN : PyData → Bool
  | .none => true
  | _ => false
theorem isN_V {L H : Hp} {v : V} {d : PyData} (h : VL L H v d) : decide (v = .non) = isN d := by
  cases d with
  | none => rw [h.non]; rfl
  | bool b => rw [h.bl]; rfl
  | int i => rw [h.int]; rfl
  | str x => rw [h.str]; rfl
  | list ds =>
    rcases h with h | ⟨a, xs, es, e, rfl, _⟩
    · cases h; rfl
    · rfl
  | tuple ds => obtain ⟨a, xs, rfl, _⟩ := h.tup; rfl
  | dict _ =>
    rcases h with h | ⟨a, xs, es, e, rfl, _⟩
    · cases h
    · rfl
def φIsN (neg : Bool)  (x y : PyData) (Q : R → Prop) : Prop := match y with
  | .none => Q (.sh (.bool (if neg then !isN x else isN x)))
  | _ => False
abbrev rIsN : R2 := fun x y H Q => y = .non ∧ Q (.bl (decide (x = .non))) H
abbrev rNotN : R2 := fun x y H Q => y = .non ∧ Q (.bl (!decide (x = .non))) H
theorem r2_isN : R2K rIsN (φIsN false) := by
  constructor
  · intro x y A B hAB q
    cases y <;> first | exact hAB _ q | exact q.elim
  · intro L H x y dx dy Q s hx hy q
    cases dy with
    | none => exact ⟨hy.non, q _ L H (Ext.refl _ _ _) s (by rw [isN_V hx]; exact .bl _)⟩
    | _ => exact q.elim
theorem r2_notN : R2K rNotN (φIsN true) := by
  constructor
  · intro x y A B hAB q
    cases y <;> first | exact hAB _ q | exact q.elim
  · intro L H x y dx dy Q s hx hy q
    cases dy with
    | none => exact ⟨hy.non, q _ L H (Ext.refl _ _ _) s (by rw [isN_V hx]; exact .bl _)⟩
    | _ => exact q.elim
def flatD : PyData → Option V
  | .none => some .non
  | .bool b => some (.bl b)
  | .int i => some (.int i)
  | .str x => some (.str x)
  | _ => none
def flatsD : List PyData → Option (List V)
  | [] => some []
  | d :: ds => match flatD d, flatsD ds with
    | some v, some vs => some (v :: vs)
    | _, _ => none
theorem flat_is {H : Hp} {v u : V} {d : PyData} (h : DV H v d) (e : flatD d = some u) : v = u ∧ flatV v = true := by
  cases h <;> first | (cases e; exact ⟨rfl, rfl⟩) | cases e
theorem flats_is {H : Hp} : ∀ {vs us : List V} {ds : List PyData}, DVs H vs ds → flatsD ds = some us → vs = us ∧ vs.all flatV = true
  | _, _, _, .nil, e => by cases e; exact ⟨rfl, rfl⟩
  | _, _, _, .cons a r, e => by
    unfold flatsD at e
    split at e
    · rename_i x xs hx hxs
      cases e
      obtain ⟨h1, h2⟩ := flat_is a hx
      obtain ⟨h3, h4⟩ := flats_is r hxs
      exact ⟨by rw [h1, h3], by rw [List.all_cons, h2, h4]; rfl⟩
    · cases e
/-- flat things by what they are; others by data -/
def φIn (neg : Bool)  (x y : PyData) (Q : R → Prop) : Prop := match PyData.its y with
  | some ds => match flatD x, flatsD ds with
    | some v, some vs => Q (.sh (.bool (if neg then !inV v vs else inV v vs)))
    | _, _ => (y = .list ds ∧ SeqAt.shaped x = true ∧ SeqAt.shaped y = true) ∧ Q (.sh (.bool (if neg then !(ds.any fun z => PyData.eqv z x) else ds.any fun z => PyData.eqv z x)))
  | none => False
theorem φIn_mono {neg : Bool} {x y : PyData} {A B : R → Prop} (hAB : ∀ r, A r → B r) (q : φIn neg x y A) : φIn neg x y B := by
  unfold φIn at q ⊢
  split at q
  · split at q
    · exact hAB _ q
    · exact ⟨q.1, hAB _ q.2⟩
  · exact q.elim
abbrev rInA (K : PySem.W.Frag) : R2 := fun x y H Q => rIn K false x y H Q ∨ rInD K x y H Q
abbrev rNotInA (K : PySem.W.Frag) : R2 := fun x y H Q => rIn K true x y H Q ∨ rNotInD K x y H Q
theorem op_inA {X : Cx} (hu : X.A.units + 65 < cLine) : OpR X (compareOp .In) (rInA X.K) := op_or op_in_seq (op_inD hu)
theorem op_notInA {X : Cx} (hu : X.A.units + 65 < cLine) : OpR X (compareOp .NotIn) (rNotInA X.K) := op_or op_notIn_seq (op_notInD hu)
theorem its_seq {K : PySem.W.Frag} {L H : Hp} {v : V} {d : PyData} {ds : List PyData} (h : VL L H v d) (s : Same L H) (e : PyData.its d = some ds) : ∃ a xs, v = .ref a ∧ (SqL K H a xs ∨ SqT K H a xs) ∧ DVs L xs ds := by
  cases d with
  | list es =>
    cases e
    obtain ⟨a, xs, rfl, h1, h2⟩ := h.lst s
    exact ⟨a, xs, rfl, .inl (SqL.of h1), h2⟩
  | tuple es =>
    cases e
    obtain ⟨a, xs, rfl, h1, h2⟩ := h.tup
    exact ⟨a, xs, rfl, .inr (h1.to s).seq, h2⟩
  | _ => cases e
theorem r2_in {K : PySem.W.Frag} : R2K (rInA K) (φIn false) := by
  constructor
  · intro x y A B hAB q
    exact φIn_mono hAB q
  · intro L H x y dx dy Q s hx hy q
    unfold φIn at q
    split at q
    · rename_i ds hds
      obtain ⟨a, xs, rfl, h1, h2⟩ := its_seq (K := K) hy s hds
      split at q
      · rename_i v vs hv hvs
        obtain ⟨e1, f1⟩ := flat_is (hx.dv s) hv
        obtain ⟨e2, f2⟩ := flats_is h2 hvs
        subst e1
        subst e2
        exact .inl ⟨a, _, rfl, h1, f1, f2, q _ L H (Ext.refl _ _ _) s (.bl _)⟩
      · obtain ⟨⟨e, s1, s2⟩, q⟩ := q
        subst e
        exact .inr ⟨_, ds, DV.dp _ _ (hx.dv s), DV.dp _ _ (hy.dv s), s1, s2, q _ L H (Ext.refl _ _ _) s (.bl _)⟩
    · exact q.elim
theorem r2_notIn {K : PySem.W.Frag} : R2K (rNotInA K) (φIn true) := by
  constructor
  · intro x y A B hAB q
    exact φIn_mono hAB q
  · intro L H x y dx dy Q s hx hy q
    unfold φIn at q
    split at q
    · rename_i ds hds
      obtain ⟨a, xs, rfl, h1, h2⟩ := its_seq (K := K) hy s hds
      split at q
      · rename_i v vs hv hvs
        obtain ⟨e1, f1⟩ := flat_is (hx.dv s) hv
        obtain ⟨e2, f2⟩ := flats_is h2 hvs
        subst e1
        subst e2
        exact .inl ⟨a, _, rfl, h1, f1, f2, q _ L H (Ext.refl _ _ _) s (.bl _)⟩
      · obtain ⟨⟨e, s1, s2⟩, q⟩ := q
        subst e
        exact .inr ⟨_, ds, DV.dp _ _ (hx.dv s), DV.dp _ _ (hy.dv s), s1, s2, q _ L H (Ext.refl _ _ _) s (.bl _)⟩
    · exact q.elim
end Lp

namespace Lp
open PySem PySem.Spec PyProof.Rows L2
abbrev IL (ns : List Int) : List V := ns.map V.int
abbrev dI (ns : List Int) : List PyData := ns.map PyData.int
theorem sz {n : Nat} (h : n ≤ 100000) : n ≤ sizeLine := Nat.le_trans h (by decide)
theorem szl {n : Nat} (h : n < 100000) : n < sizeLine := Nat.lt_of_lt_of_le h (by decide)
theorem dvs_ints {H : Hp} : ∀ ns : List Int, DVs H (IL ns) (dI ns)
  | [] => .nil
  | x :: r => .cons (.int x) (dvs_ints r)
theorem ints_dvs {H : Hp} : ∀ {vs : List V} {ns : List Int}, DVs H vs (dI ns) → vs = IL ns
  | _, [], .nil => rfl
  | _, _ :: _, .cons (.int _) r => by rw [ints_dvs r]; rfl
theorem IL_get {ns : List Int} {i : Nat} {z : Int} (h : ns[i]? = some z) : (IL ns)[i]? = some (.int z) := by
  rw [List.getElem?_map, h]; rfl
/-- all ints of ns lie in 0 .. n - 1 -/
def Low (n : Nat) (ns : List Int) : Prop := ∀ z ∈ ns, 0 ≤ z ∧ z < (n : Int)
theorem Low.app {n : Nat} {fs : List Int} {z : Int} (h : Low n fs) (h0 : 0 ≤ z) (h1 : z < (n : Int)) : Low n (fs ++ [z]) := fun y hy => by
  rcases List.mem_append.mp hy with h2 | h2
  · exact h y h2
  · rw [List.mem_singleton] at h2
    subst h2; exact ⟨h0, h1⟩
theorem Low.set {n : Nat} {fs : List Int} {z : Int} {i : Nat} (h : Low n fs) (h0 : 0 ≤ z) (h1 : z < (n : Int)) : Low n (fs.set i z) := fun y hy => by
  rcases List.mem_or_eq_of_mem_set hy with h2 | h2
  · exact h y h2
  · subst h2; exact ⟨h0, h1⟩
theorem Low.at {n : Nat} {fs : List Int} {z : Int} {i : Nat} (h : Low n fs) (e : fs[i]? = some z) : 0 ≤ z ∧ z < (n : Int) := h z (List.mem_of_getElem? e)
/-- data that are all ints -/
def intsD : List PyData → Option (List Int)
  | [] => some []
  | .int i :: ds => match intsD ds with
    | some ns => some (i :: ns)
    | none => none
  | _ :: _ => none
theorem intsD_dI : ∀ ns : List Int, intsD (dI ns) = some ns
  | [] => rfl
  | x :: r => by
    show (match intsD (dI r) with | some ns => some (x :: ns) | none => none) = _
    rw [intsD_dI r]
theorem intsD_is : ∀ {ds : List PyData} {ns : List Int}, intsD ds = some ns → ds = dI ns
  | [], _, h => by cases h; rfl
  | .int i :: ds, ns, h => by
    unfold intsD at h
    split at h
    · rename_i ms hm
      cases h
      rw [intsD_is hm]; rfl
    · cases h
  | .none :: _, _, h => by cases h
  | .bool _ :: _, _, h => by cases h
  | .str _ :: _, _, h => by cases h
  | .list _ :: _, _, h => by cases h
  | .tuple _ :: _, _, h => by cases h
  | .dict _ :: _, _, h => by cases h
def boolsD : List PyData → Option (List Bool)
  | [] => some []
  | .bool i :: ds => match boolsD ds with
    | some ns => some (i :: ns)
    | none => none
  | _ :: _ => none
abbrev dB (bs : List Bool) : List PyData := bs.map PyData.bool
theorem boolsD_dB : ∀ bs : List Bool, boolsD (dB bs) = some bs
  | [] => rfl
  | x :: r => by
    show (match boolsD (dB r) with | some ns => some (x :: ns) | none => none) = _
    rw [boolsD_dB r]
theorem boolsD_is : ∀ {ds : List PyData} {ns : List Bool}, boolsD ds = some ns → ds = dB ns
  | [], _, h => by cases h; rfl
  | .bool i :: ds, ns, h => by
    unfold boolsD at h
    split at h
    · rename_i ms hm
      cases h
      rw [boolsD_is hm]; rfl
    · cases h
  | .none :: _, _, h => by cases h
  | .int _ :: _, _, h => by cases h
  | .str _ :: _, _, h => by cases h
  | .list _ :: _, _, h => by cases h
  | .tuple _ :: _, _, h => by cases h
  | .dict _ :: _, _, h => by cases h
theorem bools_dvs {H : Hp} : ∀ {vs : List V} {ns : List Bool}, DVs H vs (dB ns) → vs = ns.map V.bl
  | _, [], .nil => rfl
  | _, _ :: _, .cons (.bl _) r => by rw [bools_dvs r]; rfl
/-- data that are all tuples of ints, none empty -/
def tupsD : List PyData → Option (List (List Int))
  | [] => some []
  | .tuple es :: ds => match intsD es, tupsD ds with
    | some (n :: ns), some nss => some ((n :: ns) :: nss)
    | _, _ => none
  | _ :: _ => none
abbrev dT (nss : List (List Int)) : List PyData := nss.map fun ns => .tuple (dI ns)
theorem tupsD_dT : ∀ nss : List (List Int), (∀ ns ∈ nss, ns ≠ []) → tupsD (dT nss) = some nss
  | [], _ => rfl
  | [] :: r, h => absurd rfl (h [] List.mem_cons_self)
  | (x :: y) :: r, h => by
    show (match intsD (dI (x :: y)), tupsD (dT r) with | some (n :: ns), some nss => some ((n :: ns) :: nss) | _, _ => none) = _
    rw [intsD_dI, tupsD_dT r fun ns hn => h ns (List.mem_cons_of_mem _ hn)]
theorem tupsD_is : ∀ {ds : List PyData} {nss : List (List Int)}, tupsD ds = some nss → ds = dT nss ∧ ∀ ns ∈ nss, ns ≠ []
  | [], _, h => by cases h; exact ⟨rfl, fun _ h => nomatch h⟩
  | .tuple es :: ds, nss, h => by
    unfold tupsD at h
    split at h
    · rename_i n ns ms h1 h2
      cases h
      obtain ⟨e, k⟩ := tupsD_is h2
      rw [e, intsD_is h1]
      exact ⟨rfl, fun x hx => (List.mem_cons.mp hx).elim (fun z => by rw [z]; exact (fun q => nomatch q)) (k x)⟩
    · cases h
  | .none :: _, _, h => by cases h
  | .bool _ :: _, _, h => by cases h
  | .int _ :: _, _, h => by cases h
  | .str _ :: _, _, h => by cases h
  | .list _ :: _, _, h => by cases h
  | .dict _ :: _, _, h => by cases h
end Lp

namespace Lp
open PySem PySem.Spec PyProof.Rows L2
theorem lex_asym : ∀ xs ys : List Int, HT.lexLt xs ys = true → HT.lexLt ys xs = false
  | [], [], _ => rfl
  | [], _ :: _, _ => rfl
  | _ :: _, [], h => by cases h
  | x :: xs, y :: ys, h => by
    rw [HT.lexLt_cons] at h ⊢
    by_cases e : x = y
    · rw [if_pos e] at h; rw [if_pos e.symm]; exact lex_asym xs ys h
    · rw [if_neg e] at h; rw [if_neg (Ne.symm e)]
      have := of_decide_eq_true h
      exact decide_eq_false (by omega)
theorem lex_tr : ∀ xs ys zs : List Int, HT.lexLt ys xs = false → HT.lexLt zs ys = false → HT.lexLt zs xs = false
  | [], _, [], _, _ => rfl
  | [], _, _ :: _, _, _ => rfl
  | _ :: _, [], _, h, _ => by cases h
  | _ :: _, _ :: _, [], _, h => by cases h
  | x :: xs, y :: ys, z :: zs, h1, h2 => by
    rw [HT.lexLt_cons] at h1 h2 ⊢
    by_cases e1 : y = x
    · rw [if_pos e1] at h1
      by_cases e2 : z = y
      · rw [if_pos e2] at h2
        rw [if_pos (e2.trans e1)]
        exact lex_tr xs ys zs h1 h2
      · rw [if_neg e2] at h2
        rw [if_neg (fun e => e2 (e.trans e1.symm)), ← e1]; exact h2
    · rw [if_neg e1] at h1
      have a := of_decide_eq_false h1
      by_cases e2 : z = y
      · rw [if_neg (fun e => e1 (e2.symm.trans e))]
        exact decide_eq_false (by omega)
      · rw [if_neg e2] at h2
        have b := of_decide_eq_false h2
        rw [if_neg (by omega)]
        exact decide_eq_false (by omega)
theorem lex_eq : ∀ xs ys : List Int, HT.lexLt xs ys = false → HT.lexLt ys xs = false → xs = ys
  | [], [], _, _ => rfl
  | [], _ :: _, h, _ => by cases h
  | _ :: _, [], _, h => by cases h
  | x :: xs, y :: ys, h1, h2 => by
    rw [HT.lexLt_cons] at h1 h2
    by_cases e : x = y
    · rw [if_pos e] at h1
      rw [if_pos e.symm] at h2
      rw [e, lex_eq xs ys h1 h2]
    · rw [if_neg e] at h1
      rw [if_neg (Ne.symm e)] at h2
      have := of_decide_eq_false h1
      have := of_decide_eq_false h2
      omega
abbrev ltK (k : Value → List Int) : Value → Value → Bool := fun v u => HT.lexLt (k v) (k u)
theorem swoK (k : Value → List Int) : SrtO.Swo (ltK k) := ⟨fun x y h => lex_asym _ _ h, fun x y z h1 h2 => lex_tr _ _ _ h1 h2⟩
section
variable {prog : Program} {w : World} {A : Around} {E : Value → Shared → Prop} {s : Shared}
theorem kat_ints : ∀ {xs ys : List Value} {ns ms : List Int} {fin : Bool} (i : Nat), IntsAre xs ns → IntsAre ys ms → fin = decide (ns.length < ms.length) →
    PySem.W.KatLex prog w A true fin (fun r s' => s' = s ∧ r = HT.lexLt ns ms) (xs.zip ys) i s
  | _, _, _, _, fin, i, .nil, .nil, h => PySem.W.kat_nil ⟨rfl, by rw [h]; rfl⟩
  | _, _, _, _, fin, i, .nil, .cons m u r, h => PySem.W.kat_nil ⟨rfl, by rw [h]; exact decide_eq_true (Nat.succ_pos _)⟩
  | _, _, _, _, fin, i, .cons n t r, .nil, h => PySem.W.kat_nil ⟨rfl, by rw [h]; exact decide_eq_false (Nat.not_lt_zero _)⟩
  | _, _, _, _, fin, i, .cons (ns := ns) n t r, .cons (ns := ms) m u r', h => by
    refine PySem.W.kat_cons (SeqAt.EqAt.int_int n t m u prog w _ _ ?_)
    refine PySem.W.kat_go (fun e => ?_) (fun e => ?_)
    · have en : n = m := by simpa using e
      refine PySem.W.kat_yes ?_
      have ih := kat_ints (fin := fin) (i + 1) r r' (by rw [h]; simp)
      rw [HT.lexLt_cons, if_pos en]
      exact ih
    · have en : ¬ n = m := by simpa using e
      refine PySem.W.kat_no (TS.oneLt_ints _ ?_)
      rw [HT.lexLt_cons, if_neg en]
      exact ⟨rfl, rfl⟩
/-- what is asked of the values: tuples of ints, none empty -/
def KeyOk (h : Heap) (k : Value → List Int) (vs : List Value) : Prop := ∀ v ∈ vs, TS.TupInts h v (k v) ∧ k v ≠ []
theorem KeyOk.keeps {h h' : Heap} {k : Value → List Int} {vs : List Value} (x : KeyOk h k vs) (q : ∀ b o, h.get? b = some o → o.cls = .type "tuple" → h'.get? b = some o) : KeyOk h' k vs := fun v hv => ⟨(x v hv).1.keeps q, (x v hv).2⟩
theorem key_cmp {vs : List Value} {k : Value → List Int} (x : KeyOk s.heap k vs) : SrtO.Cmp prog w A s (tuples' true) (fun p => p.1 ∈ vs) (SrtO.lt2 (ltK k)) := by
  intro p q hp hq
  obtain ⟨⟨a, xs, e, ⟨o, ho, _, n, hd⟩, i⟩, _⟩ := x _ hp
  obtain ⟨⟨b, ys, e', ⟨o', ho', _, n', hd'⟩, i'⟩, _⟩ := x _ hq
  show wpAny (model prog w) A (keyLt' (tuples' true) p.1 q.1) (fun r s' => s' = s ∧ r = HT.lexLt (k p.1) (k q.1)) (fun _ _ => False) s
  rw [e] at i ⊢
  rw [e'] at i' ⊢
  refine PySem.W.kat_lt ho hd ho' hd' (kat_ints 0 i i' ?_)
  rw [← i.length, ← i'.length, Array.length_toList, Array.length_toList]
theorem key_firsts {h : Heap} {k : Value → List Int} : ∀ vs : List Value, KeyOk h k vs → ∃ fs, PySem.W.KatTups h vs fs ∧ fs.length = vs.length ∧ ∀ f ∈ fs, ∃ n t, f = Value.int n t
  | [], _ => ⟨[], .nil, rfl, fun _ z => nomatch z⟩
  | v :: vs, x => by
    obtain ⟨fs, k1, k2, k3⟩ := key_firsts vs fun u hu => x u (List.mem_cons_of_mem _ hu)
    obtain ⟨⟨a, xs, e, ⟨o, ho, hc, n, hd⟩, i⟩, ne⟩ := x v List.mem_cons_self
    subst e
    generalize hz : k (.ref a) = z at i ne
    generalize hy : xs.toList = ys at i
    cases i with
    | nil => exact absurd rfl ne
    | cons m t r =>
      refine ⟨.int m t :: fs, .cons ho hc hd ?_ k1, congrArg (· + 1) k2, fun f hf => ?_⟩
      · rw [← Array.getElem?_toList, hy]; rfl
      · rcases List.mem_cons.mp hf with q | q
        · exact ⟨m, t, q⟩
        · exact k3 f q
theorem key_sortable {a : Addr} {vs : List Value} {k : Value → List Int} (x : KeyOk s.heap k vs) (h0 : 2 ≤ vs.length) (ha : ∀ o, s.heap.get? a = some o → o.cls ≠ .type "tuple") : SrtO.SortableO prog w A s a vs (ltK k) := by
  intro h' keep
  have x' : KeyOk h' k vs := x.keeps fun b o e c => keep b o (fun z => ha o (z ▸ e) c) e
  obtain ⟨fs, f1, f2, f3⟩ := key_firsts vs x'
  refine ⟨tuples' true, fun Q E hq => ?_, key_cmp (s := { s with heap := h' }) x'⟩
  refine PySem.W.kat_kind (T := .type "int") f1 (by omega) (fun f hf => ?_) (by rfl) ?_
  · obtain ⟨n, t, e⟩ := f3 f hf
    rw [e]
    exact PySem.W.Looks.now
  · rw [show (Value.type "int" != Value.type "tuple") = true by decide +kernel]
    exact hq
end
/-- the address of a value, its ints -/
def refOf : Value → Addr
  | .ref a => a
  | _ => 0
abbrev RL (L : List (Addr × List Int)) : List V := L.map fun p => V.ref p.1
abbrev RW (L : List (Addr × List Int)) : List Value := L.map fun p => Value.ref p.1
/-- L' is L in ascending order -/
def Ranked (L' : List (Addr × List Int)) : Prop := L'.Pairwise fun x y => HT.lexLt y.2 x.2 = false
section
variable {X : Cx}
def kf (h : Heap) (v : Value) : Addr × List Int := (refOf v, TS.intsOf h v)
theorem kf_map {h : Heap} {L : List (Addr × List Int)} (x : ∀ p ∈ L, TS.TupInts h (.ref p.1) p.2) : (RW L).map (kf h) = L := by
  rw [List.map_map]
  refine (List.map_congr_left fun p hp => ?_).trans (List.map_id L)
  show (p.1, TS.intsOf h (.ref p.1)) = p
  rw [(x p hp).ints]
theorem kf_back {h : Heap} {L : List (Addr × List Int)} : ∀ {out : List Value}, (∀ v ∈ out, v ∈ RW L) → out = RW (out.map (kf h))
  | [], _ => rfl
  | v :: r, x => by
    obtain ⟨p, _, e⟩ := List.mem_map.mp (x v List.mem_cons_self)
    have ih := kf_back (h := h) (L := L) (out := r) fun u hu => x u (List.mem_cons_of_mem _ hu)
    show v :: r = Value.ref (refOf v) :: RW (r.map (kf h))
    rw [← ih, ← e]; rfl
theorem tupInts_at {pins : List (Addr × Obj)} {σ : L2.St} {H : Hp} {s : Shared} {b : Addr} {k : List Int} (I : Inv X pins σ H s) (h : SqT X.K H b (IL k)) : TS.TupInts s.heap (.ref b) k := tupInts_of (I.isT h)
/-- sorted(xs), xs a list of tuples of ints, none empty -/
def rSortL (K : PySem.W.Frag) : List V → Hp → VK → Prop := fun vs H Q => ∃ (a : Addr) (L : List (Addr × List Int)), vs = [V.ref a] ∧ SqL K H a (RL L) ∧ (∀ p ∈ L, SqT K H p.1 (IL p.2) ∧ p.2 ≠ []) ∧
  ∀ L' q, L'.Perm L → Ranked L' → H q = none → Q (.ref q) (upd H q (.lst (RL L')))
theorem cr_sortL : CallR X (.builtin "sorted") (rSortL X.K) := by
  intro pins s σ H vs us Q I r h
  obtain ⟨a, L, rfl, hs, hx, q⟩ := h
  obtain ⟨its, rv, hl, hz⟩ := I.list hs
  rw [Vals.ref1 r]
  have ei : its = RW L := refs_of_vals rv
  subst ei
  have tup : ∀ p ∈ L, TS.TupInts s.heap (.ref p.1) p.2 := fun p hp => tupInts_at I (hx p hp).1
  have key : KeyOk s.heap (TS.intsOf s.heap) (RW L) := fun v hv => by
    obtain ⟨p, hp, rfl⟩ := List.mem_map.mp hv
    rw [(tup p hp).ints]
    exact ⟨tup p hp, (hx p hp).2⟩
  refine SrtO.sorted_ord (swoK (TS.intsOf s.heap)) hl.isList (by rw [← rv.length]; exact hz) (fun h2 h₁ a' ha kk => ?_) fun out o1 o2 => ?_
  · refine key_sortable (s := { s with heap := h₁ }) (key.keeps fun b o e _ => (kk b o e).2) h2 fun o e c => ?_
    cases ha.symm.trans e
    exact absurd (Value.type.inj c) (by decide)
  · have back := kf_back (h := s.heap) (L := L) (out := out) fun v hv => o2.perm.mem_iff.mp hv
    have pm : (out.map (kf s.heap)).Perm L := by
      have := o2.perm.map (kf s.heap)
      rw [kf_map tup] at this
      exact this
    have rk : Ranked (out.map (kf s.heap)) := List.pairwise_map.mpr o1
    obtain ⟨ep, he⟩ := PyProof.Rows.sortedAll_at s.heap (RW L) out.toArray
    have vals : Vals (RL (out.map (kf s.heap))) out := by
      have : Vals (RL (out.map (kf s.heap))) (RW (out.map (kf s.heap))) := vals_of_refs _
      rw [← back] at this
      exact this
    refine ⟨.ref _, upd H (s.heap.objs.size + 1) (.lst (RL (out.map (kf s.heap)))), I.laid (t' := s.toks) (fun _ _ => PyProof.Rows.sortedAll_old) (Nat.le_succ _) ⟨?_, out, ep, vals, he⟩, rfl, q _ _ pm rk (I.hok.fresh (Nat.le_succ _))⟩
    rw [List.length_map, pm.length_eq]
    rw [List.length_map] at hz; exact hz
/-- sorted(set), of tuples of ints, none empty -/
def rSortS (K : PySem.W.Frag) (P : Program) (w : World) : List V → Hp → VK → Prop := fun vs H Q => ∃ (a : Addr) (L : List (Addr × List Int)), vs = [V.ref a] ∧ H a = some (SetTO P w a L) ∧ (∀ p ∈ L, SqT K H p.1 (IL p.2) ∧ p.2 ≠ []) ∧
  ∀ L' q, L'.Perm L → Ranked L' → (L'.map (·.2)).Nodup → H q = none → Q (.ref q) (upd H q (.lst (RL L')))
theorem cr_sortS (hc : X.calm = true) : CallR X (.builtin "sorted") (rSortS X.K X.prog X.w) := by
  intro pins s σ H vs us Q I r h
  obtain ⟨a, L, rfl, ha, hx, q⟩ := h
  have R0 : SetT0 X.prog X.w s.heap a L := (I.hok a _ ha).1
  obtain ⟨es, ep, t, R⟩ := R0.full fun p hp => I.isT (hx p hp).1
  rw [Vals.ref1 r]
  obtain ⟨o, ho, hex, hd⟩ := R.ob
  have few := R.few
  have siz := R.size
  refine Calls.call_function_entry PyProof.Rows.kind_sorted PyProof.Rows.plain_sorted PyProof.Rows.entry_sorted (PyProof.Rows.args_sorted1 _) ?_
  unfold Builtin.«sorted»
  refine wpAny_bind (m := checkCount "sorted" 1 1 _) (wpAny_pure (wpAny_bind (collect_set (A := X.A.in1) (I.ok.hd hc) ⟨o, ho, hex.1, hd⟩ R.fits (by show es.size < 4096; omega) R.tab.ris R.led ?_)))
  intro s1 out0 k1 hz g1 o1 pm
  have rows : es.toList.map (·.2) = RW L := by
    rw [R.rows]; unfold rowsOf; rw [List.map_map]; rfl
  rw [rows] at pm
  have len0 : out0.length = L.length := by rw [pm.length_eq, List.length_map]
  refine wpAny_bind (wpAny_newList ?_ (sz (by omega)))
  have hoL : (s1.heap.push (seqObj "list" out0.toArray 0)).get? s1.heap.objs.size = some (seqObj "list" out0.toArray 0) := Heap.get?_push_size _ rfl
  have tup : ∀ p ∈ L, TS.TupInts (s1.heap.push (seqObj "list" out0.toArray 0)) (.ref p.1) p.2 := fun p hp => tupInts_of (isT_keep (R.tup p hp) fun b u e => Heap.get?_push_of_some _ (k1 b u e))
  have key : KeyOk (s1.heap.push (seqObj "list" out0.toArray 0)) (TS.intsOf (s1.heap.push (seqObj "list" out0.toArray 0))) out0 := fun v hv => by
    obtain ⟨p, hp, rfl⟩ := List.mem_map.mp (pm.mem_iff.mp hv)
    rw [(tup p hp).ints]
    exact ⟨tup p hp, (hx p hp).2⟩
  refine wpAny_bind (wpAny_holding (wpAny_call_entry PyProof.Rows.slot_list_sort ⟨_, hoL, rfl⟩ PyProof.Rows.entry_list_sort (SrtO.list_sort_ord (s := { s1 with heap := s1.heap.push (seqObj "list" out0.toArray 0) }) (swoK (TS.intsOf (s1.heap.push (seqObj "list" out0.toArray 0)))) hoL (sz (by omega)) (fun h2 => ?_) fun out q1 q2 => ⟨_, rfl, ?_⟩) (PyProof.Rows.args_list_sort _)))
  · refine key_sortable (s := { s1 with heap := s1.heap.push (seqObj "list" out0.toArray 0) }) key h2 fun o e c => ?_
    cases hoL.symm.trans e
    exact absurd (Value.type.inj c) (by decide)
  · obtain ⟨c, hcL⟩ := sortedHeap_at (vs := out0) (out := out.toArray) hoL
    generalize hh : s1.heap.push (seqObj "list" out0.toArray 0) = h2 at *
    have back := kf_back (h := h2) (L := L) (out := out) fun v hv => pm.mem_iff.mp (q2.perm.mem_iff.mp hv)
    have pL : (out.map (kf h2)).Perm L := by
      have := (q2.perm.trans pm).map (kf h2)
      rw [kf_map tup] at this
      exact this
    have rk : Ranked (out.map (kf h2)) := List.pairwise_map.mpr q1
    have hn : H s1.heap.objs.size = none := I.hok.fresh hz
    have vals : Vals (RL (out.map (kf h2))) out := by
      have : Vals (RL (out.map (kf h2))) (RW (out.map (kf h2))) := vals_of_refs _
      rw [← back] at this
      exact this
    have keep : ∀ b u, s.heap.get? b = some u → (sortedHeap h2 s1.heap.objs.size out0 out.toArray).get? b = some u := fun b u e => by
      have lt := Heap.lt_size (k1 b u e)
      rw [sortedHeap_old (Nat.ne_of_lt lt) (by rw [← hh, size_push']; exact Nat.lt_succ_of_lt lt), ← hh]
      exact Heap.get?_push_of_some _ (k1 b u e)
    have lenL : (RL (out.map (kf h2))).length ≤ sizeLine := by rw [List.length_map, pL.length_eq]; exact sz (by omega)
    have J : Inv X pins σ (upd H s1.heap.objs.size (.lst (RL (out.map (kf h2))))) { s with heap := sortedHeap h2 s1.heap.objs.size out0 out.toArray, gens := s1.gens, drawn := s1.drawn, toks := s1.toks } :=
      I.call (ch := []) (Un.laid keep hz hn) (I.hok.laid keep hz ⟨lenL, out, c, vals, hcL⟩) (by rw [g1]; exact I.bare) (fun _ z => nomatch z)
    have fin : EP X pins σ Q (.ref s1.heap.objs.size) { s with heap := sortedHeap h2 s1.heap.objs.size out0 out.toArray, gens := s1.gens, drawn := s1.drawn, toks := s1.toks } := ⟨.ref _, _, J, rfl, q _ _ pL rk ((pL.map (·.2)).nodup_iff.mpr R.nd) hn⟩
    refine wpAny_pure ⟨_, rfl, ?_⟩
    obtain ⟨h1, g, d, t', os⟩ := s1
    cases o1
    exact fin
end
end Lp

namespace Lp
open PySem PySem.Spec PyProof.Rows L2
end Lp

namespace Lp
open PySem PySem.Spec PyProof.Rows L2
section
variable {prog : Program} {w : World} {A : Around} {E : Value → Shared → Prop} {s : Shared} {l : Addr}
theorem min_tupI {xs : Array (Int × Tok)} {Q : Value → Shared → Prop} (calm : A.handled = none) (ht : s.heap.IsTuple l (intItems xs)) (ne : 0 < xs.size)
    (q : ∀ v h' tk, (intItems xs)[argBest (fun i j => decide (numAt xs i < numAt xs j)) (xs.size - 1)]? = some v → (∀ b o, s.heap.get? b = some o → h'.get? b = some o) → Q v { s with heap := h', toks := tk }) :
    wpAny (model prog w) A (call (.builtin "min") [.ref l]) Q E s := by
  have lt : l < s.heap.objs.size := by obtain ⟨_, e, _⟩ := ht; exact Heap.lt_size e
  refine call_min_walk (wpAny_pyIter_tuple ht ?_)
  refine ⟨_, [_, l], [_], _, _, _, _, rfl, Walks.tuple (A := A.in1) calm _ l (Nat.ne_of_lt lt) (intItems xs), ⟨⟨_, Heap.get?_push_size _ rfl, rfl, rfl⟩, ht.push _⟩, fun c hc => ?_, by simpa [intItems] using ne, CmpOf.ints_lt (numAt xs) (fun _ _ => intItems_at), fun v h' tk hP hk => ?_⟩
  · have e : c = s.heap.objs.size ∨ c = l := by simpa using hc
    have z : (s.heap.push { cls := .type "tuple_iterator", data := .fields #[.ref l, .int 0 0] }).objs.size = s.heap.objs.size + 1 := Heap.size_push ..
    show c < _
    rw [z]
    rcases e with rfl | rfl
    · exact Nat.lt_succ_self _
    · exact Nat.lt_succ_of_lt lt
  · refine q v h' tk (by simpa [intItems] using hP) fun c o e => hk c o (fun hm => ?_) (Heap.get?_push_of_some _ e)
    have ec : c = s.heap.objs.size := by simpa using hm
    rw [ec] at e
    exact Nat.lt_irrefl _ (Heap.lt_size e)
theorem min_tupN {its : List Value} {ns : List Int} {Q : Value → Shared → Prop} (calm : A.handled = none) (ht : s.heap.IsTuple l its.toArray) (hi : IntsAre its ns) (ne : 0 < ns.length)
    (q : ∀ h' tk M t', (∀ b o, s.heap.get? b = some o → h'.get? b = some o) → M ∈ ns → (∀ a, a ∈ ns → M ≤ a) → Q (.int M t') { s with heap := h', toks := tk }) : wpAny (model prog w) A (call (.builtin "min") [.ref l]) Q E s := by
  obtain ⟨xs, e⟩ := hi.allInts.items
  have en : numsOf (intItems xs).toList = ns := e ▸ hi.numsOf
  rw [nums_intItems] at en
  subst en
  rw [e] at ht
  refine min_tupI calm ht (by simpa using ne) fun v h' tk hv hk => ?_
  obtain ⟨t, rfl⟩ := intItems_at hv
  have best := (argBest_lt (numAt xs) (xs.size - 1)).2
  have size : 0 < xs.size := by simpa using ne
  have len : (xs.toList.map (·.1)).length = xs.size := by rw [List.length_map, Array.length_toList]
  have le := (argBest_lt (numAt xs) (xs.size - 1)).1
  refine q h' tk _ t hk (by rw [numAt_eq]; exact PySem.getD_mem (by rw [len]; omega)) fun a ha => ?_
  obtain ⟨j, hj, rfl⟩ := mem_getD ha
  rw [len] at hj
  rw [← numAt_eq]
  exact best j (by omega)
end
section
variable {X : Cx}
def rMinT (K : PySem.W.Frag) : List V → Hp → VK → Prop := fun vs H Q => ∃ (a : Addr) (ns : List Int), vs = [V.ref a] ∧ SqT K H a (IL ns) ∧ 0 < ns.length ∧ ∀ m, m ∈ ns → (∀ y, y ∈ ns → m ≤ y) → Q (.int m) H
theorem cr_minT (hc : X.calm = true) : CallR X (.builtin "min") (rMinT X.K) := by
  intro pins s σ H vs us Q I r h
  obtain ⟨a, ns, rfl, hs, ne, q⟩ := h
  obtain ⟨its, rv, ht, _⟩ := I.tuple hs
  rw [Vals.ref1 r]
  exact min_tupN (I.ok.hd hc) ht rv.ints ne fun h' tk m t' hk h1 h2 => ⟨.int m, H, I.kept hk, ⟨t', rfl⟩, q m h1 h2⟩
end
end Lp

namespace Lp
open PySem PySem.Spec PyProof.Rows L2
def φLen  (ds : List PyData) (Q : R → Prop) : Prop := match ds with
  | [d] => match PyData.its d with
    | some es => Q (.sh (.int es.length))
    | none => False
  | _ => False
abbrev rLen (K : PySem.W.Frag) : List V → Hp → VK → Prop := fun xs H Q => ∃ p ys, xs = [.ref p] ∧ (SqL K H p ys ∨ SqT K H p ys) ∧ Q (.int ys.length) H
theorem rc_len {K : PySem.W.Frag} : RCK (rLen K) φLen := by
  constructor
  · intro x A B hAB q
    unfold φLen at q ⊢
    split at q
    · split at q
      · exact hAB _ q
      · exact q.elim
    · exact q.elim
  · intro L H xs ds Q s hx q
    unfold φLen at q
    split at q
    · split at q
      · rename_i es he
        cases hx with
        | cons h1 h2 =>
          cases h2
          obtain ⟨a, ys, rfl, k1, k2⟩ := its_seq (K := K) h1 s he
          exact ⟨a, ys, rfl, k1, by rw [k2.len]; exact q _ L H (Ext.refl _ _ _) s (.int _)⟩
      · exact q.elim
    · exact q.elim
def φList  (ds : List PyData) (Q : R → Prop) : Prop := match ds with
  | [d] => match PyData.its d with
    | some es => Q (.nw es)
    | none => False
  | _ => False
abbrev rList (K : PySem.W.Frag) : List V → Hp → VK → Prop := fun xs H Q => ∃ p ys, xs = [.ref p] ∧ (SqL K H p ys ∨ SqT K H p ys) ∧ ∀ l, H l = none → Q (.ref l) (upd H l (.lst ys))
theorem rc_list {K : PySem.W.Frag} : RCK (rList K) φList := by
  constructor
  · intro x A B hAB q
    unfold φList at q ⊢
    split at q
    · split at q
      · exact hAB _ q
      · exact q.elim
    · exact q.elim
  · intro L H xs ds Q s hx q
    unfold φList at q
    split at q
    · split at q
      · rename_i es he
        cases hx with
        | cons h1 h2 =>
          cases h2
          obtain ⟨a, ys, rfl, k1, k2⟩ := its_seq (K := K) h1 s he
          exact ⟨a, ys, rfl, k1, fun p np => q _ L _ (Ext.own np) (same_own s (s.free np)) ⟨p, _, rfl, np, s.free np, upd_same, k2⟩⟩
      · exact q.elim
    · exact q.elim
def φTuple  (ds : List PyData) (Q : R → Prop) : Prop := match ds with
  | [d] => match PyData.its d with
    | some es => Q (.sh (.tuple es))
    | none => False
  | _ => False
theorem rc_tuple {K : PySem.W.Frag} : RCK (rTuple K) φTuple := by
  constructor
  · intro x A B hAB q
    unfold φTuple at q ⊢
    split at q
    · split at q
      · exact hAB _ q
      · exact q.elim
    · exact q.elim
  · intro L H xs ds Q s hx q
    unfold φTuple at q
    split at q
    · split at q
      · rename_i d _ es he
        cases hx with
        | cons h1 h2 =>
          cases h2
          cases d with
          | list es' =>
            cases he
            obtain ⟨a, ys, rfl, k1, k2⟩ := h1.lst s
            refine ⟨a, ys, rfl, .inl ⟨SqL.of k1, fun p o np no => ?_⟩⟩
            have e1 : Ext none L H (upd L p (.frz o (.tup ys))) (upd H p (.frz o (.tup ys))) := Ext.new s np
            exact q _ _ _ e1 (same_both s) (.tup ⟨o, no, upd_same⟩ (k2.to e1.ll))
          | tuple es' =>
            cases he
            obtain ⟨a, ys, rfl, k1, k2⟩ := h1.tup
            exact ⟨a, ys, rfl, .inr ⟨(k1.to s).seq, q _ L H (Ext.refl _ _ _) s (.tup k1 k2)⟩⟩
          | _ => cases he
      · exact q.elim
    · exact q.elim
def φAbs  (ds : List PyData) (Q : R → Prop) : Prop := match ds with
  | [.int i] => Q (.sh (.int (if i < 0 then -i else i)))
  | _ => False
def φInt  (ds : List PyData) (Q : R → Prop) : Prop := match ds with
  | [.int i] => Q (.sh (.int i))
  | [.bool b] => Q (.sh (.int (if b then 1 else 0)))
  | _ => False
def IsMin (ns : List Int) (m : Int) : Prop := m ∈ ns ∧ ∀ y ∈ ns, m ≤ y
def φMin  (ds : List PyData) (Q : R → Prop) : Prop := match ds with
  | [.int i, .int j] => Q (.sh (.int (if j < i then j else i)))
  | [d] => match (PyData.its d).bind intsD with
    | some ns => 0 < ns.length ∧ ∀ m, IsMin ns m → Q (.sh (.int m))
    | none => False
  | _ => False
abbrev rMinA (K : PySem.W.Frag) : List V → Hp → VK → Prop := fun xs H Q => (∃ i j, xs = [.int i, .int j] ∧ Q (.int (if j < i then j else i)) H) ∨ (rMin K xs H Q ∨ rMinT K xs H Q)
theorem cr_minA {X : Cx} (hc : X.calm = true) : CallR X (.builtin "min") (rMinA X.K) := cr_or (call_min2 hc) (cr_or (cr_min hc) (cr_minT hc))
theorem rc_min {K : PySem.W.Frag} : RCK (rMinA K) φMin := by
  constructor
  · intro x A B hAB q
    unfold φMin at q ⊢
    split at q
    · exact hAB _ q
    · split at q
      · exact ⟨q.1, fun m hm => hAB _ (q.2 m hm)⟩
      · exact q.elim
    · exact q.elim
  · intro L H xs ds Q s hx q
    unfold φMin at q
    split at q
    · cases hx with
      | cons h1 h2 =>
        cases h2 with
        | cons h2 h3 =>
          cases h3
          cases h1.int
          cases h2.int
          exact .inl ⟨_, _, rfl, q _ L H (Ext.refl _ _ _) s (.int _)⟩
    · rename_i d
      split at q
      · rename_i ns hn
        cases hx with
        | cons h1 h2 =>
          cases h2
          cases d with
          | list es =>
            obtain ⟨a, ys, rfl, k1, k2⟩ := h1.lst s
            rw [intsD_is (show intsD es = some ns from hn)] at k2
            cases ints_dvs k2
            exact .inr (.inl ⟨a, ns, rfl, SqL.of k1, q.1, fun m h1 h2 => q.2 m ⟨h1, h2⟩ _ L H (Ext.refl _ _ _) s (.int _)⟩)
          | tuple es =>
            obtain ⟨a, ys, rfl, k1, k2⟩ := h1.tup
            rw [intsD_is (show intsD es = some ns from hn)] at k2
            cases ints_dvs k2
            exact .inr (.inr ⟨a, ns, rfl, (k1.to s).seq, q.1, fun m h1 h2 => q.2 m ⟨h1, h2⟩ _ L H (Ext.refl _ _ _) s (.int _)⟩)
          | _ => cases hn
      · exact q.elim
    · exact q.elim
def φMax  (ds : List PyData) (Q : R → Prop) : Prop := match ds with
  | [.int i, .int j] => Q (.sh (.int (if j > i then j else i)))
  | _ => False
def φAll (any : Bool)  (ds : List PyData) (Q : R → Prop) : Prop := match ds with
  | [.list es] => match boolsD es with
    | some bs => Q (.sh (.bool (if any then bs.any id else bs.all id)))
    | none => False
  | _ => False
theorem rc_all {K : PySem.W.Frag} : RCK (rAll K) (φAll false) := by
  constructor
  · intro x A B hAB q
    unfold φAll at q ⊢
    split at q
    · split at q
      · exact hAB _ q
      · exact q.elim
    · exact q.elim
  · intro L H xs ds Q s hx q
    unfold φAll at q
    split at q
    · split at q
      · rename_i ns hn
        cases hx with
        | cons h1 h2 =>
          cases h2
          obtain ⟨a, ys, rfl, k1, k2⟩ := h1.lst s
          rw [boolsD_is hn] at k2
          cases bools_dvs k2
          exact ⟨a, ns, rfl, SqL.of k1, q _ L H (Ext.refl _ _ _) s (.bl _)⟩
      · exact q.elim
    · exact q.elim
/-- sorted(xs): ints, or tuples of ints -/
def φSorted  (ds : List PyData) (Q : R → Prop) : Prop := match ds with
  | [.list es] => match intsD es, tupsD es with
    | some ns, _ => ∀ ms : List Int, ms.Perm ns → ms.Pairwise (· ≤ ·) → Q (.nw (dI ms))
    | none, some nss => ∀ mss : List (List Int), mss.Perm nss → mss.Pairwise (fun x y => HT.lexLt y x = false) → Q (.nw (dT mss))
    | _, _ => False
  | _ => False
abbrev rSortA (K : PySem.W.Frag) : List V → Hp → VK → Prop := fun xs H Q => rSortedI K xs H Q ∨ rSortL K xs H Q
theorem cr_sortA {X : Cx} : CallR X (.builtin "sorted") (rSortA X.K) := cr_or cr_sortedI cr_sortL
theorem Ranked.asc {P : List (Addr × List Int)} (h : Ranked P) : (P.map (·.2)).Pairwise (fun x y => HT.lexLt y x = false) := List.pairwise_map.mpr h
/-- tuples of ints at addresses -/
theorem tups_refs {L : Hp} : ∀ {vs : List V} {nss : List (List Int)}, DVs L vs (dT nss) → ∃ P : List (Addr × List Int), vs = RL P ∧ P.map (·.2) = nss ∧ ∀ p ∈ P, Sol L p.1 (IL p.2)
  | _, [], .nil => ⟨[], rfl, rfl, fun _ h => nomatch h⟩
  | _, ns :: nss, .cons (.tup h1 h2) r => by
    obtain ⟨P, e1, e2, h⟩ := tups_refs r
    cases ints_dvs h2
    refine ⟨(_, ns) :: P, by rw [e1]; rfl, by rw [← e2]; rfl, fun p hp => ?_⟩
    rcases List.mem_cons.mp hp with rfl | hp
    · exact h1
    · exact h p hp
theorem refs_tups {L : Hp} : ∀ (P : List (Addr × List Int)), (∀ p ∈ P, Sol L p.1 (IL p.2)) → DVs L (RL P) (dT (P.map (·.2)))
  | [], _ => .nil
  | p :: P, h => .cons (.tup (h p List.mem_cons_self) (dvs_ints _)) (refs_tups P fun q hq => h q (List.mem_cons_of_mem _ hq))
theorem rc_sorted {K : PySem.W.Frag} : RCK (rSortA K) φSorted := by
  constructor
  · intro x A B hAB q
    unfold φSorted at q ⊢
    split at q
    · split at q
      · exact fun ms h1 h2 => hAB _ (q ms h1 h2)
      · exact fun ms h1 h2 => hAB _ (q ms h1 h2)
      · exact q.elim
    · exact q.elim
  · intro L H xs ds Q s hx q
    unfold φSorted at q
    split at q
    · cases hx with
      | cons h1 h2 =>
        cases h2
        obtain ⟨a, ys, rfl, k1, k2⟩ := h1.lst s
        split at q
        · rename_i ns hn
          rw [intsD_is hn] at k2
          cases ints_dvs k2
          exact .inl ⟨a, ns, rfl, SqL.of k1, fun ms p h1 h2 np => q ms h1 h2 _ L _ (Ext.own np) (same_own s (s.free np)) ⟨p, _, rfl, np, s.free np, upd_same, dvs_ints ms⟩⟩
        · rename_i nss _ hn
          obtain ⟨e, ne⟩ := tupsD_is hn
          rw [e] at k2
          obtain ⟨P, e1, e2, hP⟩ := tups_refs k2
          subst e1
          refine .inr ⟨a, P, rfl, SqL.of k1, fun p hp => ⟨((hP p hp).to s).seq, ne _ (by rw [← e2]; exact List.mem_map_of_mem hp)⟩, fun P' p pm rk np => ?_⟩
          refine q (P'.map (·.2)) (by rw [← e2]; exact pm.map _) rk.asc _ L _ (Ext.own np) (same_own s (s.free np)) ⟨p, _, rfl, np, s.free np, upd_same, refs_tups P' fun p hp => hP p (pm.mem_iff.mp hp)⟩
        · exact q.elim
    · exact q.elim
section
variable {w : Wx} {K : PySem.W.Frag} {te : TE} {f : DTE}
/-- RS: the items of nss, each once, ascending -/
def Asc (nss RS : List (List Int)) : Prop := RS.Nodup ∧ RS.Pairwise (fun x y => HT.lexLt y x = false) ∧ ∀ k, k ∈ RS ↔ k ∈ nss
/-- sorted(set(xs)), xs a list of tuples of ints -/
def dSortSet (f : DTE)  (ε : Env) (Q : R → Env → Prop) : Prop := f ε fun r ε1 => match r.dat with
  | some (.list ds) => match tupsD ds with
    | some nss => nss.length < 64 ∧ ∀ RS, Asc nss RS → Q (.nw (dT RS)) ε1
    | none => False
  | _ => False
theorem se_sortSet {P : Program} (hf : SE w te f) : SE w (tCB (rSortS K P w) (tCons (tCB (rSetOfT K P w) (tCons te tNil)) tNil)) (dSortSet f) := by
  constructor
  · intro ε A B h q
    refine hf.mono _ _ _ (fun r ε1 q => ?_) q
    split at q
    · split at q
      · exact ⟨q.1, fun RS hR => h _ _ (q.2 RS hR)⟩
      · exact q.elim
    · exact q.elim
  · intro Z O σ ε L H Q X q
    refine hf.run Z O σ ε L H _ X (hf.mono _ _ _ (fun r ε1 q => ?_) q)
    intro v L1 H1 X1 e1 r1
    split at q
    · rename_i ds hd
      split at q
      · rename_i nss hn
        obtain ⟨a, ys, rfl, k1, k2⟩ := (r1.vl hd).lst X1.lh
        obtain ⟨e, ne⟩ := tupsD_is hn
        rw [e] at k2
        obtain ⟨P', e1', e2, hP⟩ := tups_refs k2
        subst e1'
        refine ⟨a, P', rfl, SqL.of k1, fun p hp => ((hP p hp).to X1.lh).seq, by rw [← List.length_map (f := (·.2)), e2]; exact q.1, fun b M nb h1 h2 => ?_⟩
        have s2 : Same L1 (upd H1 b (SetTO P w b M)) := same_own X1.lh (X1.lh.free nb)
        refine ⟨b, M, rfl, upd_same, fun p hp => ⟨((hP p (h1 p hp)).to s2).seq, ne _ (by rw [← e2]; exact List.mem_map_of_mem (h1 p hp))⟩, fun M' c pm rk nd nc => ?_⟩
        have eb : Ext none L1 H1 L1 (upd H1 b (SetTO P w b M)) := Ext.own nb
        have ec : Ext none L1 (upd H1 b (SetTO P w b M)) L1 (upd (upd H1 b (SetTO P w b M)) c (.lst (RL M'))) := Ext.own nc
        have X2 := X1.step eb s2
        have nc1 : H1 c = none := eb.free nc
        have X3 := X2.step ec (same_own s2 (X1.lh.free nc1))
        refine q.2 (M'.map (·.2)) ⟨nd, rk.asc, fun k => ?_⟩ _ L1 _ X3 ((e1.trans eb.any).trans ec.any) (VR.back (VR0.vr (r := .nw (dT (M'.map (·.2)))) ⟨c, _, rfl, nc, X1.lh.free nc1, upd_same, refs_tups M' fun p hp => hP p (h1 p (pm.mem_iff.mp hp))⟩ X2) (e1.trans eb.any))
        rw [(pm.map (·.2)).mem_iff, ← e2]
        constructor
        · intro hk
          obtain ⟨p, hp, rfl⟩ := List.mem_map.mp hk
          exact List.mem_map_of_mem (h1 p hp)
        · intro hk
          obtain ⟨p, hp, rfl⟩ := List.mem_map.mp hk
          exact h2 p hp
      · exact q.elim
    · exact q.elim
def dListRg (f : DTE)  (ε : Env) (Q : R → Env → Prop) : Prop := f ε fun r ε1 => match r.dat with
  | some (.int n) => n ≤ 16777216 ∧ -(2 ^ 62) ≤ n ∧ Q (.nw (rgD 0 n.toNat)) ε1
  | _ => False
theorem dvs_rg {H : Hp} (n : Int) : DVs H (rgV 0 n) (rgD 0 n.toNat) := by
  unfold rgV rgD
  rw [Int.sub_zero]
  generalize List.range n.toNat = l
  induction l with
  | nil => exact .nil
  | cons x r ih => exact .cons (.int _) ih
theorem se_listRg (hf : SE w te f) : SE w (tLstRg (tRg1 te)) (dListRg f) := by
  constructor
  · intro ε A B h q
    refine hf.mono _ _ _ (fun r ε1 q => ?_) q
    split at q
    · exact ⟨q.1, q.2.1, h _ _ q.2.2⟩
    · exact q.elim
  · intro Z O σ ε L H Q X q
    refine hf.run Z O σ ε L H _ X (hf.mono _ _ _ (fun r ε1 q => ?_) q)
    intro v L1 H1 X1 e1 r1
    split at q
    · rename_i n hd
      refine ⟨n, (r1.vl hd).int, ⟨by decide, by decide, q.2.1, by omega, by omega⟩, fun p np => ?_⟩
      have ep : Ext none L1 H1 L1 (upd H1 p (.lst (rgV 0 n))) := Ext.own np
      exact q.2.2 _ L1 _ (X1.step ep (same_own X1.lh (X1.lh.free np))) (e1.trans ep.any) (VR.back (VR0.vr (r := .nw (rgD 0 n.toNat)) ⟨p, _, rfl, np, X1.lh.free np, upd_same, dvs_rg n⟩ X1) e1)
    · exact q.elim
end
section
variable {X : Cx}
def rIndexT (K : PySem.W.Frag) : V → List V → Hp → VK → Prop := fun x xs H Q => ∃ (a : Addr) (ys : List V) (y : V) (j : Nat) (z : V), x = V.ref a ∧ xs = [y] ∧ SqT K H a ys ∧ flatV y = true ∧ ys.all flatV = true ∧ ys[j]? = some z ∧ eqV z y = true ∧
  (∀ (m : Nat) (z' : V), m < j → ys[m]? = some z' → eqV z' y = false) ∧ Q (.int (j : Nat)) H
theorem mt_indexT : MtR X "tuple.index" (rIndexT X.K) := by
  rintro pins s σ H x xs v us Q J rx rxs ⟨a, ys, y, j, z, rfl, rfl, at_a, fy, fys, hz, hit, miss, q⟩
  cases rx
  obtain ⟨uy, rfl, ry⟩ := vals1 rxs
  obtain ⟨its, rv, pl, _⟩ := J.tuple at_a
  obtain ⟨⟨cls, dd, dt, sl⟩, look, isT, n, seq⟩ := pl
  simp only at isT seq
  subst isT
  subst seq
  have many : its.toArray.size = ys.length := by rw [List.size_toArray]; exact rv.length.symm
  have place : ∀ (m : Nat) (hm : m < its.toArray.size), ∃ z', ys[m]? = some z' ∧ eqU y its.toArray[m] = eqV z' y := fun m hm => by
    have hm' : m < ys.length := by rw [← many]; exact hm
    obtain ⟨u, hu, ru⟩ := rv.get (i := m) (x := ys[m]) (List.getElem?_eq_getElem hm')
    refine ⟨ys[m], List.getElem?_eq_getElem hm', ?_⟩
    have e : its.toArray[m] = u := by simpa using (List.getElem?_eq_some_iff.mp hu).2
    rw [e]
    exact eqU_of ru (flat_at fys (List.getElem?_eq_getElem hm'))
  have hj : j < its.toArray.size := by rw [many]; exact (List.getElem?_eq_some_iff.mp hz).1
  refine call_meets PySem.F.slot_tuple_index ⟨_, look, rfl⟩ PySem.F.entry_tuple_index (PySem.F.args_tuple_index_2 _ _) (TI.tuple_indexAt a its.toArray n dd sl uy (eqU y) j hj ?_ ?_)
    ⟨look, fun u hu => mem_eqAt ry fy rv fys u (by simpa using hu), ⟨.int (j : Nat), H, J.tok _, ⟨_, rfl⟩, q⟩⟩
  · obtain ⟨z', h1, h2⟩ := place j hj
    rw [hz] at h1
    cases h1
    rw [h2]; exact hit
  · intro m hm hmj
    obtain ⟨z', h1, h2⟩ := place m hm
    rw [h2]; exact miss m z' hmj h1
/-- a list, or a tuple without a dict -/
def tIndex (K : PySem.W.Frag) (to : TE) (t : TA) : TE := fun σ H Q => to σ H fun x H1 => (tyV K "list" x H1 ∧ t σ H1 fun xs H2 => rIndex K x xs H2 Q) ∨ ((∃ a ys, x = .ref a ∧ Sol H1 a ys) ∧ t σ H1 fun xs H2 => rIndexT K x xs H2 Q)
theorem pe_index {o e : Expr} {to : TE} {t : TA} {apos cpos : Pos} (ho : PE X o to) (ha : PA X [e] t)
    (hbase : attributeBase o "index" X.env (eval o X.env) = eval o X.env := by rfl)
    (hfew : ((backTo cpos (starEach [e] X.env)).all (fun x => !x.1) && (backToKw cpos (keywordEach [] X.env)).all (fun x => x.1.isSome) && decide ([e].length + ([] : List Keyword).length + (if ([] : List Keyword).isEmpty then 0 else 1) < 30)) = true := by rfl)
    (hline : (apos.endLine == cpos.line) = true := by rfl) (hs : starEach [e] X.env = (false, eval e X.env) :: starEach [] X.env := by rfl) (hplain : (backTo cpos (starEach [] X.env)).any (·.1) = false := by rfl) :
    PE X (.Call (.Attribute o "index" apos) [e] [] cpos) (tIndex X.K to t) := by
  constructor
  intro pins s σ H Q J want
  refine wpAny_Call_method_late hbase hfew hline rfl (thn (ho.run pins s σ H _ J want) ?_)
  rintro v s' ⟨x, H', J', rx, ways⟩
  have go : ∀ (id : String) (r : V → List V → Hp → VK → Prop), MtR X id r → (t σ H' fun xs H2 => r x xs H2 Q) → wpAny (model X.prog X.w) X.A (callWith cpos (.builtin id) [v] (backTo cpos (starEach [e] X.env)) []) (EP X pins σ Q) X.xe s' := by
    intro id r hm hq
    have hA := ha.run cpos pins s' σ H' _ J' hq
    rw [hs] at hA ⊢
    refine Calls.callWith_builtin (by show (false || (backTo cpos (starEach [] X.env)).any (·.1)) = false; rw [hplain]; rfl) (Calls.evalArgs_plain (thn hA ?_))
    rintro us s2 ⟨xs, H2, J2, rs, q2⟩
    exact hm pins s2 σ H2 x xs v us Q J2 rx rs q2
  rcases ways with ⟨ty, hq⟩ | ⟨⟨a, ys, rfl, o', nd, at_a⟩, hq⟩
  · obtain ⟨h1, h2⟩ := tyV_is J' rx ty
    exact ⟨"list", _, PySem.F.plainAttrs_list, PySem.F.slot_list_index, PySem.F.type_list_index, h1, h2, go _ _ mt_index hq⟩
  · cases rx
    have ok : ObjOk X.prog X.w H' s'.heap a (.frz o' (.tup ys)) := J'.hok a _ at_a
    obtain ⟨k1, k2, its, rv, k3⟩ := ok
    refine ⟨"tuple", _, PySem.F.plainAttrs_tuple, PySem.F.slot_tuple_index, PySem.F.type_tuple_index, k3.typeIs, fun b e => ?_, go _ _ mt_indexT hq⟩
    cases e
    exact ⟨o', k1, nd⟩
end
section
variable {w : Wx} {K : PySem.W.Frag} {ta te : TE} {f g : DTE}
/-- the first place of an int among ints -/
def dIndex (f g : DTE)  (ε : Env) (Q : R → Env → Prop) : Prop := f ε fun x ε1 => match x.dat.bind PyData.its with
  | some ds => g ε1 fun y ε2 => match y.dat, intsD ds with
    | some (.int k), some ns => k ∈ ns ∧ Q (.sh (.int (ns.idxOf k : Nat))) ε2
    | _, _ => False
  | none => False
theorem idx_get {ms : List Int} {z : Int} (h : z ∈ ms) : ms[ms.idxOf z]? = some z := by
  have hl := List.idxOf_lt_length_of_mem h
  rw [List.getElem?_eq_getElem hl, List.getElem_idxOf hl]
theorem idx_first : ∀ (ms : List Int) (z : Int) (j : Nat), j < ms.idxOf z → ms[j]? ≠ some z
  | [], z, j, h => by simp at h
  | x :: ms, z, j, h => by
    rw [List.idxOf_cons] at h
    by_cases q : x = z
    · subst q; simp at h
    · have qb : (x == z) = false := beq_eq_false_iff_ne.mpr q
      rw [qb] at h
      cases j with
      | zero => intro e; exact q (Option.some.inj e)
      | succ j =>
        intro e
        exact idx_first ms z j (by simp at h; omega) e
theorem flat_ints (ns : List Int) : (IL ns).all flatV = true := by
  rw [List.all_eq_true]
  intro x hx
  obtain ⟨z, _, rfl⟩ := List.mem_map.mp hx
  rfl
theorem eqV_int (a b : Int) : eqV (.int a) (.int b) = decide (a = b) := by
  simp [eqV]
  rfl
theorem se_index (hf : SE w ta f) (hg : SE w te g) : SE w (tIndex K ta (tCons te tNil)) (dIndex f g) := by
  constructor
  · intro ε A B h q
    refine hf.mono _ _ _ (fun x ε1 q => ?_) q
    split at q
    · refine hg.mono _ _ _ (fun y ε2 q => ?_) q
      split at q
      · exact ⟨q.1, h _ _ q.2⟩
      · exact q.elim
    · exact q.elim
  · intro Z O σ ε L H Q X q
    refine hf.run Z O σ ε L H _ X (hf.mono _ _ _ (fun x ε1 q => ?_) q)
    intro v L1 H1 X1 e1 r1
    have miss : ∀ (ns : List Int) (k : Int) (m : Nat) (z' : V), m < ns.idxOf k → (IL ns)[m]? = some z' → eqV z' (.int k) = false := by
      intro ns k m z' hm hz
      rw [List.getElem?_map] at hz
      cases hn : ns[m]? with
      | none => rw [hn] at hz; cases hz
      | some n =>
        rw [hn] at hz
        cases hz
        rw [eqV_int]
        exact decide_eq_false fun e => idx_first ns k m hm (by rw [hn, e])
    split at q
    · rename_i ds hds
      cases hx : x.dat with
      | none => rw [hx] at hds; cases hds
      | some d =>
        rw [hx] at hds
        cases d with
        | list es =>
          cases hds
          obtain ⟨a, ys, rfl, k1, k2⟩ := (r1.vl hx).lst X1.lh
          refine .inl ⟨.inl ⟨rfl, _, SqL.of k1⟩, hg.run Z O σ ε1 L1 H1 _ X1 (hg.mono _ _ _ (fun y ε2 q => ?_) q)⟩
          intro u L2 H2 X2 e2 r2
          split at q
          · rename_i k ns hk hn
            cases (r2.vl hk).int
            obtain ⟨_, _, ea, k3, k4⟩ := ((r1.mono X1 e2).vl hx).lst X2.lh
            cases ea
            rw [intsD_is hn] at k4
            cases ints_dvs k4
            exact ⟨a, _, .int k, ns.idxOf k, .int k, rfl, rfl, SqL.of k3, rfl, flat_ints ns, IL_get (idx_get q.1), by rw [eqV_int, decide_eq_true rfl], miss ns k, q.2 _ L2 H2 X2 (e1.trans e2) (.int _)⟩
          · exact q.elim
        | tuple es =>
          cases hds
          obtain ⟨a, ys, rfl, k1, k2⟩ := (r1.vl hx).tup
          refine .inr ⟨⟨a, ys, rfl, k1.to X1.lh⟩, hg.run Z O σ ε1 L1 H1 _ X1 (hg.mono _ _ _ (fun y ε2 q => ?_) q)⟩
          intro u L2 H2 X2 e2 r2
          split at q
          · rename_i k ns hk hn
            cases (r2.vl hk).int
            rw [intsD_is hn] at k2
            cases ints_dvs k2
            exact ⟨a, _, .int k, ns.idxOf k, .int k, rfl, rfl, ((k1.to e2.ll).to X2.lh).seq, rfl, flat_ints ns, IL_get (idx_get q.1), by rw [eqV_int, decide_eq_true rfl], miss ns k, q.2 _ L2 H2 X2 (e1.trans e2) (.int _)⟩
          · exact q.elim
        | _ => cases hds
    · exact q.elim
end
end Lp

namespace Lp
open PySem PySem.Spec PyProof.Rows L2
section
variable {w : Wx} {K : PySem.W.Frag} {ta te : TE} {f g : DTE}
def enD (ds : List PyData) : List PyData := ds.mapIdx fun i d => .tuple [.int (i : Nat), d]
theorem enD_len (ds : List PyData) : (enD ds).length = ds.length := by unfold enD; rw [List.length_mapIdx]
theorem enD_get {ds : List PyData} {i : Nat} {e : PyData} (h : (enD ds)[i]? = some e) : ∃ d, ds[i]? = some d ∧ e = .tuple [.int (i : Nat), d] := by
  unfold enD at h
  rw [List.getElem?_mapIdx] at h
  cases q : ds[i]? with
  | none => rw [q] at h; cases h
  | some d => rw [q] at h; cases h; exact ⟨d, rfl, rfl⟩
theorem walkS_enum {L : Hp} {a : Addr} {xs : List V} {ds : List PyData} (h : L a = some (.lst xs)) (r : DVs L xs ds) : WalkS true L (Ite K a) (enD ds) := by
  have hl := r.len
  refine ⟨fun i L' H' s1 s2 hi => ?_, fun L' H' s1 s2 => ?_, fun i d L' H' x H2 s1 s2 hd y => ?_⟩
  · rw [enD_len] at hi
    exact ⟨xs, xs[i]'(by omega), SqL.of (s2 _ _ (s1 _ _ h)), List.getElem?_eq_getElem (by omega)⟩
  · rw [enD_len]
    exact ⟨xs, SqL.of (s2 _ _ (s1 _ _ h)), by omega⟩
  · obtain ⟨T, z, rfl, nT, rfl, y2⟩ := y
    have hx := y2 xs (SqL.of (s2 _ _ (s1 _ _ h)))
    obtain ⟨d', hd', rfl⟩ := enD_get hd
    obtain ⟨v, h1, h2⟩ := r.get hd'
    rw [hx] at h1
    cases h1
    exact ⟨L', Ext.own nT, same_own s2 (s2.free nT), .inr ⟨T, _, _, rfl, rfl, upd_same, .cons (.int _) (.cons (h2.to s1) .nil)⟩⟩
def dEnum (f : DTA)  (ε : Env) (Q : List PyData → Bool → Env → Prop) : Prop := f ε fun rs ε1 => match rs with
  | [.sh (.list ds)] => Q (enD ds) true ε1
  | _ => False
def zipDs (xs ys : List PyData) : List PyData := List.zipWith (fun a b => .tuple [a, b]) xs ys
theorem zipDs_len (xs ys : List PyData) : (zipDs xs ys).length = min xs.length ys.length := by unfold zipDs; rw [List.length_zipWith]
theorem zipDs_get {xs ys : List PyData} {i : Nat} {e : PyData} (h : (zipDs xs ys)[i]? = some e) : ∃ a b, xs[i]? = some a ∧ ys[i]? = some b ∧ e = .tuple [a, b] := by
  unfold zipDs at h
  rw [List.getElem?_zipWith] at h
  cases q : xs[i]? with
  | none => rw [q] at h; cases h
  | some a =>
    rw [q] at h
    cases q2 : ys[i]? with
    | none => rw [q2] at h; cases h
    | some b => rw [q2] at h; cases h; exact ⟨a, b, rfl, rfl, rfl⟩
theorem walkS_zipL {L : Hp} {a b : Addr} {xs ys : List V} {ds es : List PyData} (h : L a = some (.lst xs)) (k : L b = some (.lst ys)) (r : DVs L xs ds) (q : DVs L ys es) : WalkS true L (Itz K a b) (zipDs ds es) := by
  have hl := r.len
  have kl := q.len
  refine ⟨fun i L' H' s1 s2 hi => ?_, fun L' H' s1 s2 => ?_, fun i d L' H' x H2 s1 s2 hd y => ?_⟩
  · rw [zipDs_len] at hi
    exact ⟨xs, ys, xs[i]'(by omega), ys[i]'(by omega), SqL.of (s2 _ _ (s1 _ _ h)), SqL.of (s2 _ _ (s1 _ _ k)), List.getElem?_eq_getElem (by omega), List.getElem?_eq_getElem (by omega)⟩
  · rw [zipDs_len]
    exact ⟨xs, ys, SqL.of (s2 _ _ (s1 _ _ h)), SqL.of (s2 _ _ (s1 _ _ k)), by omega⟩
  · obtain ⟨T, z, z', rfl, nT, rfl, y2, y3⟩ := y
    have hx := y2 xs (SqL.of (s2 _ _ (s1 _ _ h)))
    have hy := y3 ys (SqL.of (s2 _ _ (s1 _ _ k)))
    obtain ⟨d', e', hd', he', rfl⟩ := zipDs_get hd
    obtain ⟨v, h1, h2⟩ := r.get hd'
    obtain ⟨u, k1, k2⟩ := q.get he'
    rw [hx] at h1
    rw [hy] at k1
    cases h1
    cases k1
    exact ⟨L', Ext.own nT, same_own s2 (s2.free nT), .inr ⟨T, _, _, rfl, rfl, upd_same, .cons (h2.to s1) (.cons (k2.to s1) .nil)⟩⟩
theorem walkS_zipT {L : Hp} {a b : Addr} {xs ys : List V} {ds es : List PyData} (h : Sol L a xs) (k : Sol L b ys) (r : DVs L xs ds) (q : DVs L ys es) : WalkS true L (RZ.ItzT K a b) (zipDs ds es) := by
  have hl := r.len
  have kl := q.len
  refine ⟨fun i L' H' s1 s2 hi => ?_, fun L' H' s1 s2 => ?_, fun i d L' H' x H2 s1 s2 hd y => ?_⟩
  · rw [zipDs_len] at hi
    exact ⟨xs, ys, xs[i]'(by omega), ys[i]'(by omega), ((h.to s1).to s2).seq, ((k.to s1).to s2).seq, List.getElem?_eq_getElem (by omega), List.getElem?_eq_getElem (by omega)⟩
  · rw [zipDs_len]
    exact ⟨xs, ys, ((h.to s1).to s2).seq, ((k.to s1).to s2).seq, by omega⟩
  · obtain ⟨T, z, z', rfl, nT, rfl, y2, y3⟩ := y
    have hx := y2 xs ((h.to s1).to s2).seq
    have hy := y3 ys ((k.to s1).to s2).seq
    obtain ⟨d', e', hd', he', rfl⟩ := zipDs_get hd
    obtain ⟨v, h1, h2⟩ := r.get hd'
    obtain ⟨u, k1, k2⟩ := q.get he'
    rw [hx] at h1
    rw [hy] at k1
    cases h1
    cases k1
    exact ⟨L', Ext.own nT, same_own s2 (s2.free nT), .inr ⟨T, _, _, rfl, rfl, upd_same, .cons (h2.to s1) (.cons (k2.to s1) .nil)⟩⟩
def dZip (f : DTA)  (ε : Env) (Q : List PyData → Bool → Env → Prop) : Prop := f ε fun rs ε1 => match rs with
  | [.sh (.list xs), .sh (.list ys)] => Q (zipDs xs ys) true ε1
  | [.sh (.tuple xs), .sh (.tuple ys)] => Q (zipDs xs ys) true ε1
  | _ => False
theorem si_zip {n : Nat} {t : TA} {f : DTA} (hf : SA w n t f) : SI w true (RZ.iZipA K t) (dZip f) := by
  constructor
  · intro ε A B h q
    refine hf.mono _ _ _ (fun r ε1 q => ?_) q
    split at q
    · exact h _ _ _ q
    · exact h _ _ _ q
    · exact q.elim
  · intro Z O σ ε L H R X q
    refine hf.run Z O σ ε L H _ X (hf.mono _ _ _ (fun r ε1 q => ?_) q)
    intro vs L1 H1 X1 e1 r1 hl np
    split at q
    · rename_i xs ys
      cases r1 with
      | cons r1 r2 =>
        cases r2 with
        | cons r2 r3 =>
          cases r3
          cases (show DV L1 _ (.list xs) from r1) with
          | lst h1 h2 =>
            cases (show DV L1 _ (.list ys) from r2) with
            | lst k1 k2 =>
              have W := walkS_zipL (K := K) h1 k1 h2 k2
              exact ⟨_, _, _, _, rfl, .inl ⟨SqL.of (X1.lh _ _ h1), SqL.of (X1.lh _ _ k1), q _ L1 H1 X1 e1 W.e fun _ => W⟩⟩
    · rename_i xs ys
      cases r1 with
      | cons r1 r2 =>
        cases r2 with
        | cons r2 r3 =>
          cases r3
          cases (show DV L1 _ (.tuple xs) from r1) with
          | tup h1 h2 =>
            cases (show DV L1 _ (.tuple ys) from r2) with
            | tup k1 k2 =>
              have W := walkS_zipT (K := K) h1 k1 h2 k2
              exact ⟨_, _, _, _, rfl, .inr ⟨(h1.to X1.lh).seq, (k1.to X1.lh).seq, q _ L1 H1 X1 e1 W.e fun _ => W⟩⟩
    · exact q.elim
def scD (γ : DTG) (f : DTE) (vs : List Nat) (s : List SV) (Q : R → Env → Prop) : List PyData → List (List Int) → Nat → Prop
  | [], acc, n => ∀ RS, Asc acc RS → Q (.nw (dT RS)) ⟨s, n⟩
  | d :: ds, acc, n => γ d ⟨wipeE ⟨s, n⟩ vs, n⟩ fun ε1 => f ε1 fun r ε3 => match r with
      | .sh (.tuple es) => match intsD es with
        | some (x :: ns) => acc.length + 1 < 64 ∧ scD γ f vs s Q ds (acc ++ [x :: ns]) ε3.c
        | _ => False
      | _ => False
def dSortSc (i : DTI) (γ : DTG) (f : DTE) (vs : List Nat)  (ε : Env) (Q : R → Env → Prop) : Prop := i ε fun ds _ ε1 => scD γ f vs ε1.s Q ds [] ε1.c
end
section
variable {w : Wx} {K : PySem.W.Frag} {te : TE} {f : DTE}
def tyD : PyData → String
  | .none => "NoneType"
  | .bool _ => "bool"
  | .int _ => "int"
  | .str _ => "str"
  | .list _ => "list"
  | .tuple _ => "tuple"
  | .dict _ => "dict"
theorem tyX_of {L H : Hp} {v : V} {d : PyData} (h : VL L H v d) (s : Same L H) : TyX K H v (.type (tyD d)) := by
  cases d with
  | none => rw [h.non]; exact .base .non
  | bool b => rw [h.bl]; exact .base (.bl _)
  | int i => rw [h.int]; exact .base (.int _)
  | str x => rw [h.str]; exact .base (.str _)
  | list ds =>
    obtain ⟨a, xs, rfl, h1, _⟩ := h.lst s
    exact .base (.lst h1)
  | tuple ds =>
    obtain ⟨a, xs, rfl, h1, _⟩ := h.tup
    obtain ⟨o, _, e⟩ := h1.to s
    exact .fTuple e
  | dict _ =>
    rcases h with h | ⟨a, xs, es, e, _⟩
    · cases h
    · cases e
/-- is a value of type a one of type b -/
def isaT (a b : String) : Bool := a == b || (a == "bool" && b == "int")
def TyIn (T : String) : Prop := T = "int" ∨ T = "bool" ∨ T = "str" ∨ T = "list" ∨ T = "tuple"
theorem kit_all : ∀ a ∈ ["NoneType", "bool", "int", "str", "list", "tuple", "dict"], ∀ b ∈ ["int", "bool", "str", "list", "tuple"], kitB a b = some (isaT a b) := by decide +kernel
theorem kit_tyD {T : String} (hT : TyIn T) (d : PyData) : kitB (tyD d) T = some (isaT (tyD d) T) := by
  refine kit_all _ ?_ _ ?_
  · cases d <;> simp [tyD]
  · rcases hT with rfl | rfl | rfl | rfl | rfl <;> simp
def dIsi (T : String) (f : DTE)  (ε : Env) (Q : R → Env → Prop) : Prop := f ε fun r ε1 => match r.dat with
  | some d => Q (.sh (.bool (isaT (tyD d) T))) ε1
  | none => False
theorem se_isi {T : String} (hT : TyIn T) (hf : SE w te f) : SE w (tCB (rIsi K) (tCons te (tCons (tC (.ty T)) tNil))) (dIsi T f) := by
  constructor
  · intro ε A B h q
    refine hf.mono _ _ _ (fun r ε1 q => ?_) q
    split at q
    · exact h _ _ q
    · exact q.elim
  · intro Z O σ ε L H Q X q
    refine hf.run Z O σ ε L H _ X (hf.mono _ _ _ (fun r ε1 q => ?_) q)
    intro v L1 H1 X1 e1 r1
    split at q
    · rename_i d hd
      exact ⟨v, .ty T, .type (tyD d), .type T, _, rfl, .ty T, tyX_of (r1.vl hd) X1.lh, kit_ty (kit_tyD hT d), q _ L1 H1 X1 e1 (.bl _)⟩
    · exact q.elim
/-- isinstance(x, (list, tuple)) -/
def dIsi2 (T T' : String) (f : DTE)  (ε : Env) (Q : R → Env → Prop) : Prop := f ε fun r ε1 => match r.dat with
  | some d => Q (.sh (.bool (isaT (tyD d) T || isaT (tyD d) T'))) ε1
  | none => False
end
end Lp

namespace Lp
open PySem PySem.Spec PyProof.Rows L2
/-- the module's names that are the built-ins' -/
structure Bi (mg : Str → Option Value) : Prop where
  len : mg "len" = none
  list : mg "list" = none
  tuple : mg "tuple" = none
  range : mg "range" = none
  enumerate : mg "enumerate" = none
  all : mg "all" = none
  isinstance : mg "isinstance" = none
  zip : mg "zip" = none
  abs : mg "abs" = none
  int : mg "int" = none
  str : mg "str" = none
  bool : mg "bool" = none
  repr : mg "repr" = none
  set : mg "set" = none
  min : mg "min" = none
  max : mg "max" = none
  sorted : mg "sorted" = none
  sum : mg "sum" = none
  any : mg "any" = none
def φIsB  (x y : PyData) (Q : R → Prop) : Prop := match x, y with
  | .bool a, .bool b => Q (.sh (.bool (decide (a = b))))
  | _, _ => False
def dNotT (f : DTE)  (ε : Env) (Q : R → Env → Prop) : Prop := f ε fun r ε1 => match r.dat.bind truD with
  | some k => Q (.sh (.bool (!k))) ε1
  | _ => False
section
variable {X : Cx} {K : PySem.W.Frag}
theorem ixK (e : X.K = K) : IxR X (rIx K) := e ▸ ix_seq
theorem slK (e : X.K = K) : SlR X (rSlB K) := e ▸ sl_both
theorem addK (e : X.K = K) : OpR X (binaryOp .Add) (rAdd K) := e ▸ op_addA
theorem eqK (e : X.K = K) (hu : X.A.units + 64 < cLine) : OpR X (compareOp .Eq) (rEqA K) := e ▸ op_eqA hu
theorem neK (e : X.K = K) (hu : X.A.units + 64 < cLine) : OpR X (compareOp .NotEq) (rNeA K) := e ▸ op_neA hu
theorem inK (e : X.K = K) (hu : X.A.units + 65 < cLine) : OpR X (compareOp .In) (rInA K) := e ▸ op_inA hu
theorem notInK (e : X.K = K) (hu : X.A.units + 65 < cLine) : OpR X (compareOp .NotIn) (rNotInA K) := e ▸ op_notInA hu
theorem lenK (e : X.K = K) : CallR X (.builtin "len") (rLen K) := e ▸ call_len_seq
theorem listK (e : X.K = K) : CallR X (.type "list") (rList K) := e ▸ call_list_of
theorem tupleK (e : X.K = K) : CallR X (.type "tuple") (rTuple K) := e ▸ call_tupleS
theorem minK (e : X.K = K) (hc : X.calm = true) : CallR X (.builtin "min") (rMinA K) := e ▸ cr_minA hc
theorem allK (e : X.K = K) (hc : X.calm = true) : CallR X (.builtin "all") (rAll K) := e ▸ cr_all hc
theorem sortK (e : X.K = K) : CallR X (.builtin "sorted") (rSortA K) := e ▸ cr_sortA
theorem sortSK {P : Program} {w : World} (e : X.K = K) (eP : X.prog = P) (ew : X.w = w) (hc : X.calm = true) : CallR X (.builtin "sorted") (rSortS K P w) := by
  subst e eP ew
  exact cr_sortS hc
theorem setTK {P : Program} {w : World} (e : X.K = K) (eP : X.prog = P) (ew : X.w = w) (hc : X.calm = true) (hu : X.A.units + 64 < cLine) : CallR X (.type "set") (rSetOfT K P w) := by
  subst e eP ew
  exact cr_setOfT hc hu
theorem seqK {tg o : Expr} {to : TE} (e : X.K = K) (ho : PE X o to) : PI X tg o (iSeq K to) := e ▸ pi_seq ho
theorem indexK {o e : Expr} {to : TE} {t : TA} {apos cpos : Pos} (h : X.K = K) (x : PE X (.Call (.Attribute o "index" apos) [e] [] cpos) (tIndex X.K to t)) : PE X (.Call (.Attribute o "index" apos) [e] [] cpos) (tIndex K to t) := h ▸ x
theorem gtupK {es : List Expr} {k : Nat} {t : TGs} {n : Nat} {pos : Pos} (e : X.K = K) (h : PG X (.Tuple es k pos) (gTup X.K n t)) : PG X (.Tuple es k pos) (gTup K n t) := e ▸ h
theorem isiK (e : X.K = K) : CallR X (.builtin "isinstance") (rIsi K) := e ▸ call_isi
theorem zipA {ta : TA} {p pos tpos : Pos} {elts : List Expr} {kk : Nat} {a a' : Expr} (e : X.K = K) (hg : Gl X "zip") (hm : X.mg "zip" = none) (ha : PA X [a, a'] ta) (hs : starEach [a, a'] X.env = (false, eval a X.env) :: starEach [a'] X.env := by rfl) (hpl : (backTo pos (starEach [a'] X.env)).any (·.1) = false := by rfl) : PI X (.Tuple elts kk tpos) (.Call (.Name "zip" p) [a, a'] [] pos) (RZ.iZipA K ta) := e ▸ RZ.pi_zipA hg hm ha hs hpl
theorem ipR {op : Operator} {r : R2} (h : OpR X (inplaceOp op) r) : PIp X op r := h
theorem hu65 {k : Nat} {A : Around} (hr : Room k A) : A.units + 65 < cLine := by have := hr.un; omega
theorem bmK {e : Expr} {T : String} {r : V → List V → Hp → VK → Prop} {to : TE} {t : TA} (h : X.K = K) (x : PE X e (tBM X.K T r to t)) : PE X e (tBM K T r to t) := h ▸ x
theorem set0K {w : World} (e : X.w = w) : CallR X (.type "set") (rSet0 w) := e ▸ cr_set0
theorem saddK {w : World} {e : Expr} {to : TE} {t : TA} (h : X.w = w) (x : PE X e (tSAdd X.w to t)) : PE X e (tSAdd w to t) := h ▸ x
theorem snotinK {w : World} (e : X.w = w) : OpR X (compareOp .NotIn) (rSNotIn w) := e ▸ or_snotin
end
/-- a def that may be called -/
structure Cal (P : Program) (w : World) (K : PySem.W.Frag) (mg : Str → Option Value) (base : Heap) (x : Str) (k : Nat) (ps : List Str) (sp : Sp) (f : Addr) (fd : FuncData) : Prop where
  ok : FnOk P w K mg base CX0 k f fd ps sp
  g : mg x = some (.ref f)
  kp : PySem.W.keepIn K (.ref f) = true
  bd : Binds K fd ps []
def KbR (fd : FuncData) (ps : List Str) : Prop := ∀ (s : Shared) (ws : List Value), ws.length = ps.length → BindsTo s fd ⟨[], ps.reverse.zip ws⟩ (ps.zip ws.reverse)
theorem Fun.kbr {K : PySem.W.Frag} {x qual : Str} {st : Stmt} {f : Addr} {fd : FuncData} {ps : List Str} (F : Fun K x qual st f fd)
    (h : ∀ (kV doc pm : Value) (an : Option Addr) (cdv ct : Value) (ws : List Value), ws.length = ps.length → bindArgs (PySem.W.fnOf x qual (defArgs st) (defBody st) (defScope st) .none kV doc pm an cdv ct) ⟨[], ps.reverse.zip ws⟩ = pure (ps.zip ws.reverse)) : KbR fd ps := by
  obtain ⟨oc, od, kV, doc, pm, an, cdv, ct, osl, rfl, lk, hcd⟩ := F.ex
  exact fun s ws hl => .of_eq (h kV doc pm an cdv ct ws hl)
theorem pe_callR {X : Cx} {CX : CXT} {k : Nat} {f : Addr} {fd : FuncData} {ps : List Str} {sp : Sp} {E : XK} {x : Str} {p pos : Pos} {kws : List Keyword} {tk : TA} (F : FnOk X.prog X.w X.K X.mg X.base CX k f fd ps sp) (hr : Room k X.A) (hg : Gl X x) (hm : X.mg x = some (.ref f)) (hk : PySem.W.keepIn X.K (.ref f) = true) (hb : KbR fd ps) (hx : Passes CX X E)
    (hkw : PK X kws tk) (hall : (backToKw pos (keywordEach kws X.env)).all (·.1.isSome) = true := by rfl) (hks : (backToKw pos (keywordEach kws X.env)).filterMap (·.1) = ps.reverse := by rfl) (hdb : (x == ("__debug__" : Str)) = false := by decide)
    (hpl : ((backTo pos (starEach [] X.env)).any (·.1) || (backToKw pos (keywordEach kws X.env)).any (·.1.isNone)) = false := by rfl) :
    PE X (.Call (.Name x p) [] kws pos) (tCallR sp E tk) := by
  refine ⟨fun pins s σ H Q I h => ?_⟩
  refine wpAny_Call_Name_kw (ld_glob I hg hm ?_ hdb)
  refine PySem.W.callWith_KW0 (h₀ := X.base) I.ok.mod.kin hk hall ?_ hpl
  refine thn (hkw.run pos pins s σ H _ I h) fun ws s2 ⟨zs, H2, I2, rz, q2⟩ => ⟨I2.kIn, ?_⟩
  rw [hks]
  have hl : ws.length = ps.length := by
    rw [← rz.length, ← List.length_reverse]; exact F.len _ _ _ _ q2
  refine wpAny_call (codeAny_mono (F.run X.A X.stack s2 H2 ⟨[], ps.reverse.zip ws⟩ ws.reverse zs.reverse Q E hr I2.env0 (hb s2 ws hl) rz.reverse q2) fun r s' hq => ?_)
  cases r with
  | error e => exact hx pins σ H2 s2 e s' I2 hq
  | ok fl =>
    cases fl with
    | ret u => exact I2.after hq
    | next => exact False.elim hq
    | brk => exact False.elim hq
    | cont => exact False.elim hq
theorem inV_ints (z : Int) : ∀ ns : List Int, inV (.int z) (IL ns) = decide (z ∈ ns)
  | [] => by simp [inV]
  | x :: r => by
    have ih := inV_ints z r
    unfold inV at ih ⊢
    show (eqV (.int x) (.int z) || (IL r).any fun y => eqV y (V.int z)) = _
    rw [ih]
    simp only [eqV]
    by_cases h : x = z
    · subst h; simp
    · have h2 : ¬ z = x := fun e => h e.symm
      simp [h, h2]
section
variable {P : Program} {w : World} {K : PySem.W.Frag} {mg : Str → Option Value} {base : Heap}
end
def Dx (K : PySem.W.Frag) (x : Str) (st : Stmt) : Prop := ∃ (f : Addr) (oc : Value) (od an : Option Addr) (sl : Array (Option Value)) (kV dc pm cd ct : Value), PySem.W.nsIn K mainGlobals x = some (some (.ref f)) ∧
  K.lookup f = some ⟨oc, od, .func (PySem.W.fnOf x x (defArgs st) (defBody st) (defScope st) .none kV dc pm an cd ct), sl⟩ ∧ PySem.W.codeIn K cd x = true ∧ PySem.W.keepIn K (.ref f) = true
theorem dx_mk {K : PySem.W.Frag} {x : Str} {st : Stmt} {f : Addr} {oc : Value} {od an : Option Addr} {sl : Array (Option Value)} {kV dc pm cd ct : Value} (a : PySem.W.nsIn K mainGlobals x = some (some (.ref f)))
    (l : K.lookup f = some ⟨oc, od, .func (PySem.W.fnOf x x (defArgs st) (defBody st) (defScope st) .none kV dc pm an cd ct), sl⟩) (c : PySem.W.codeIn K cd x = true) (k : PySem.W.keepIn K (.ref f) = true) : Dx K x st := ⟨f, oc, od, an, sl, kV, dc, pm, cd, ct, a, l, c, k⟩
theorem Dx.fn {K : PySem.W.Frag} {x : Str} {st : Stmt} {h : Heap} {mg : Str → Option Value} (d : Dx K x st) (X : K.In h) (G : h.Ns mainGlobals mg) : ∃ f fd, Fun K x x st f fd ∧ mg x = some (.ref f) := by
  obtain ⟨f, oc, od, an, sl, kV, dc, pm, cd, ct, a, l, c, k⟩ := d
  exact ⟨f, _, fun_mk l c k, PySem.W.mg_of X G a⟩
structure Zs (K : PySem.W.Frag) : Prop where
  len : PySem.W.nsIn K mainGlobals "len" = some none
  list : PySem.W.nsIn K mainGlobals "list" = some none
  tuple : PySem.W.nsIn K mainGlobals "tuple" = some none
  range : PySem.W.nsIn K mainGlobals "range" = some none
  enumerate : PySem.W.nsIn K mainGlobals "enumerate" = some none
  all : PySem.W.nsIn K mainGlobals "all" = some none
  isinstance : PySem.W.nsIn K mainGlobals "isinstance" = some none
  zip : PySem.W.nsIn K mainGlobals "zip" = some none
  abs : PySem.W.nsIn K mainGlobals "abs" = some none
  int : PySem.W.nsIn K mainGlobals "int" = some none
  str : PySem.W.nsIn K mainGlobals "str" = some none
  bool : PySem.W.nsIn K mainGlobals "bool" = some none
  repr : PySem.W.nsIn K mainGlobals "repr" = some none
  set : PySem.W.nsIn K mainGlobals "set" = some none
  min : PySem.W.nsIn K mainGlobals "min" = some none
  max : PySem.W.nsIn K mainGlobals "max" = some none
  sorted : PySem.W.nsIn K mainGlobals "sorted" = some none
  sum : PySem.W.nsIn K mainGlobals "sum" = some none
  any : PySem.W.nsIn K mainGlobals "any" = some none
theorem Zs.bi {K : PySem.W.Frag} {h : Heap} {mg : Str → Option Value} (z : Zs K) (X : K.In h) (G : h.Ns mainGlobals mg) : Bi mg := by
  constructor
  · exact PySem.W.mg_none_of X G z.len
  · exact PySem.W.mg_none_of X G z.list
  · exact PySem.W.mg_none_of X G z.tuple
  · exact PySem.W.mg_none_of X G z.range
  · exact PySem.W.mg_none_of X G z.enumerate
  · exact PySem.W.mg_none_of X G z.all
  · exact PySem.W.mg_none_of X G z.isinstance
  · exact PySem.W.mg_none_of X G z.zip
  · exact PySem.W.mg_none_of X G z.abs
  · exact PySem.W.mg_none_of X G z.int
  · exact PySem.W.mg_none_of X G z.str
  · exact PySem.W.mg_none_of X G z.bool
  · exact PySem.W.mg_none_of X G z.repr
  · exact PySem.W.mg_none_of X G z.set
  · exact PySem.W.mg_none_of X G z.min
  · exact PySem.W.mg_none_of X G z.max
  · exact PySem.W.mg_none_of X G z.sorted
  · exact PySem.W.mg_none_of X G z.sum
  · exact PySem.W.mg_none_of X G z.any
abbrev FnT (x : Str) (st : Stmt) (kV doc pm : Value) (an : Option Addr) (cdv ct : Value) : FuncData := PySem.W.fnOf x x (defArgs st) (defBody st) (defScope st) .none kV doc pm an cdv ct
section
variable {K : PySem.W.Frag} {x : Str} {st : Stmt} {f : Addr} {fd : FuncData} {p p' p'' : Str} (F : Fun K x x st f fd)
include F
theorem b1 (h : ∀ kV doc pm an cdv ct u, bindArgs (FnT x st kV doc pm an cdv ct) ⟨[u], []⟩ = pure [(p, u)]) : Binds K fd [p] [] :=
  F.binds fun kV doc pm an cdv ct us hl => match us, hl with | [u], _ => h kV doc pm an cdv ct u
theorem b2 (h : ∀ kV doc pm an cdv ct u v, bindArgs (FnT x st kV doc pm an cdv ct) ⟨[u, v], []⟩ = pure [(p, u), (p', v)]) : Binds K fd [p, p'] [] :=
  F.binds fun kV doc pm an cdv ct us hl => match us, hl with | [u, v], _ => h kV doc pm an cdv ct u v
theorem b3 (h : ∀ kV doc pm an cdv ct u v t, bindArgs (FnT x st kV doc pm an cdv ct) ⟨[u, v, t], []⟩ = pure [(p, u), (p', v), (p'', t)]) : Binds K fd [p, p', p''] [] :=
  F.binds fun kV doc pm an cdv ct us hl => match us, hl with | [u, v, t], _ => h kV doc pm an cdv ct u v t
theorem r1 (h : ∀ kV doc pm an cdv ct u, bindArgs (FnT x st kV doc pm an cdv ct) ⟨[], [(p, u)]⟩ = pure [(p, u)]) : KbR fd [p] :=
  Fun.kbr F fun kV doc pm an cdv ct us hl => match us, hl with | [u], _ => h kV doc pm an cdv ct u
theorem r2 (h : ∀ kV doc pm an cdv ct u v, bindArgs (FnT x st kV doc pm an cdv ct) ⟨[], [(p', u), (p, v)]⟩ = pure [(p, v), (p', u)]) : KbR fd [p, p'] :=
  Fun.kbr F fun kV doc pm an cdv ct us hl => match us, hl with | [u, v], _ => h kV doc pm an cdv ct u v
theorem r3 (h : ∀ kV doc pm an cdv ct u v t, bindArgs (FnT x st kV doc pm an cdv ct) ⟨[], [(p'', u), (p', v), (p, t)]⟩ = pure [(p, t), (p', v), (p'', u)]) : KbR fd [p, p', p''] :=
  Fun.kbr F fun kV doc pm an cdv ct us hl => match us, hl with | [u, v, t], _ => h kV doc pm an cdv ct u v t
end
theorem Cal.up {P : Program} {w : World} {K : PySem.W.Frag} {mg : Str → Option Value} {base : Heap} {x : Str} {j k : Nat} {ps : List Str} {sp : Sp} {f : Addr} {fd : FuncData} (c : Cal P w K mg base x j ps sp f fd) (h : j ≤ k) : Cal P w K mg base x k ps sp f fd := ⟨c.ok.mono h, c.g, c.kp, c.bd⟩
end Lp

namespace Lp
open PySem PySem.Spec PyProof.Rows L2
section
variable {P : Program} {w : World} {K : PySem.W.Frag} {mg : Str → Option Value} {base : Heap}
end
theorem lay_ints : ∀ ns : List Int, PyData.canLayAll0 (dI ns) = true
  | [] => by simp [PyData.canLayAll0]
  | x :: r => by
    have := lay_ints r
    simp only [List.map_cons, PyData.canLayAll0, PyData.canLay0, this, Bool.and_self]
theorem depth_ints : ∀ ns : List Int, PyData.depthAll (dI ns) = 0
  | [] => by simp [PyData.depthAll]
  | x :: r => by
    have := depth_ints r
    simp only [List.map_cons, PyData.depthAll, PyData.depth, this]
    rfl
theorem shT (ns : List Int) : SeqAt.shaped (.tuple (dI ns)) = true := by
  unfold SeqAt.shaped
  simp only [PyData.canLay0, PyData.depth, lay_ints, depth_ints]
  decide
theorem eqv_ints : ∀ a b : List Int, PyData.eqvAll (dI a) (dI b) = decide (a = b)
  | [], [] => by simp [PyData.eqvAll]
  | [], _ :: _ => by simp [PyData.eqvAll]
  | _ :: _, [] => by simp [PyData.eqvAll]
  | x :: r, y :: t => by
    have ih := eqv_ints r t
    simp only [List.map_cons, PyData.eqvAll, PyData.eqv, ih]
    by_cases h : x = y
    · subst h
      by_cases h2 : r = t
      · subst h2; simp
      · simp [h2]
    · simp [h]
theorem eqvT (a b : List Int) : PyData.eqv (.tuple (dI a)) (.tuple (dI b)) = decide (a = b) := by
  simp only [PyData.eqv]; exact eqv_ints a b
end Lp

namespace Lp
open PySem PySem.Spec PyProof.Rows L2
abbrev tupIt (t : Addr) : Obj := { cls := .type "tuple_iterator", data := .fields #[.ref t, .int 0 0] }
abbrev enumOf (it : Addr) : Obj := { cls := .type "enumerate", data := .fields #[.none, .bool false, .ref it, rawInt 0, .none, .none] }
theorem meets_enT (t : Addr) (its : Array Value) : Meets (Builtin.«enumerate.__new__» ⟨[.type "enumerate", .ref t], []⟩) (fun _ R s => s.heap.IsTuple t its ∧
    R (.ok (.ret (.ref (s.heap.push (tupIt t)).objs.size))) { s with heap := (s.heap.push (tupIt t)).push (enumOf s.heap.objs.size) }) :=
  .of_wp fun prog w A R s h => by
    obtain ⟨hp, g, d, tk, os⟩ := s
    obtain ⟨ht, h⟩ := h
    have sub := sub_enumerate
    have goIt : ∀ {A' : Around} {X : Value → Shared → Prop} {Q : Value → Shared → Prop}, Q (.ref hp.objs.size) ⟨hp.push (tupIt t), g, d, tk, os⟩ → wpAny (model prog w) A' (pyIter (.ref t)) Q X ⟨hp, g, d, tk, os⟩ :=
      fun q => wpAny_pyIter_tuple ht q
    wp_walk using goIt
    refine wpAny_stack_any fun st => wpAny_pure ?_
    split
    · rename_i c _ _ _ _ _
      cases (c == Value.type "enumerate") <;> (wp_walk using goIt; exact ⟨_, rfl, h⟩)
    · wp_walk using goIt
      exact ⟨_, rfl, h⟩
theorem call_enT {prog : Program} {w : World} {A : Around} {X : Value → Shared → Prop} {s : Shared} {t : Addr} {its : Array Value} {Q : Value → Shared → Prop} (ht : s.heap.IsTuple t its)
    (h : ∀ h', IsEnum h' (s.heap.objs.size + 1) s.heap.objs.size 0 .none → h'.IsTupleIter s.heap.objs.size t 0 → (∀ b o, s.heap.get? b = some o → h'.get? b = some o) → Q (.ref (s.heap.objs.size + 1)) { s with heap := h' }) :
    wpAny (model prog w) A (call (.type "enumerate") [.ref t]) Q X s := by
  refine callType_new F.called_enumerate (by decide) (F.typeCall_enumerate_1 _) (F.newCall_enumerate_1 _) (fun obj => F.args_object_init_2 obj _) F.entry_enumerate_new (meets_enT t its) ⟨ht, ?_⟩
  have z1 : (s.heap.push (tupIt t)).objs.size = s.heap.objs.size + 1 := Heap.size_push ..
  show _ ∧ _
  rw [z1]
  have made : IsEnum ((s.heap.push (tupIt t)).push (enumOf s.heap.objs.size)) (s.heap.objs.size + 1) s.heap.objs.size 0 .none := by
    have y := Heap.get?_push_size (s.heap.push (tupIt t)) (o := enumOf s.heap.objs.size) rfl
    rw [z1] at y
    exact y
  exact ⟨⟨_, made, rfl⟩, h _ made ⟨_, Heap.get?_push_of_some _ (Heap.get?_push_size _ rfl), rfl, rfl⟩ fun b o x => Heap.get?_push_of_some _ (Heap.get?_push_of_some _ x)⟩
/-- the tuple at a, each item in a new pair -/
def IteT (K : PySem.W.Frag) (a : Addr) : It :=
  ⟨fun i H => ∃ (xs : List V) (x : V), SqT K H a xs ∧ xs[i]? = some x, fun i H v H' => ∃ T x, v = .ref T ∧ H T = none ∧ H' = upd H T (.tup [.int (i : Nat), x]) ∧ ∀ xs, SqT K H a xs → xs[i]? = some x, fun i H => ∃ xs : List V, SqT K H a xs ∧ xs.length ≤ i⟩
theorem apartT {h : Heap} {a e it : Addr} {its : Array Value} {k : Int} {old : Value} {i : Nat} (p : h.IsTuple a its) (he : IsEnum h e it k old) (hit : h.IsTupleIter it a i) : a ≠ it ∧ e ∉ [it, a] ∨ e = it := by
  obtain ⟨o, ho, hc, _⟩ := p
  obtain ⟨o2, h2, c2, _⟩ := hit
  have n1 : a ≠ it := fun z => by
    rw [z, h2] at ho
    cases ho
    rw [hc] at c2
    injection c2 with c3
    exact absurd c3 (by decide)
  have n2 : e ≠ a := fun z => by
    have he2 : h.get? e = some _ := he
    rw [z, ho] at he2
    have := congrArg (fun x => (Option.map Obj.cls x)) he2
    simp only [Option.map_some, Option.some.injEq] at this
    rw [hc] at this
    injection this with c3
    exact absurd c3 (by decide)
  by_cases q : e = it
  · exact .inr q
  · exact .inl ⟨n1, by simp [q, n2]⟩
theorem turn_enT {P : Program} {w : World} {K : PySem.W.Frag} {elts : List Expr} {kk : Nat} {tpos : Pos} (a e it : Addr) :
    Turn P w K (.Tuple elts kk tpos) (IteT K a) [e, it] e (fun i h => (∃ old, IsEnum h e it ((i : Nat) : Int) old) ∧ h.IsTupleIter it a i ∧ e ≠ it) where
  mem := by simp
  obj := fun i h st b hb => by
    obtain ⟨⟨old, he⟩, ⟨o, ho, hc, hd⟩, _⟩ := st
    rcases (show b = e ∨ b = it by simpa using hb) with z | z
    · subst z; exact ⟨_, he, fun v q => nomatch q⟩
    · subst z; exact ⟨o, ho, fun v q => by rw [hd] at q; cases q⟩
  keep := fun i h h' st k => by
    obtain ⟨⟨old, he⟩, hi, ne⟩ := st
    exact ⟨⟨old, k e (by simp) _ he⟩, hi.at fun o q => k it (by simp) o q, ne⟩
  item := by
    intro X hP hw hK hc i pins s σ H E I hf st hg
    subst hP hw hK
    obtain ⟨⟨old, he⟩, hit, ne⟩ := st
    obtain ⟨xs, x, hq, hx⟩ := hg
    obtain ⟨its, rv, p, few⟩ := I.tuple hq
    obtain ⟨u, hu, ru⟩ := rv.get hx
    have el : e < s.heap.objs.size := Heap.lt_size he
    have il : it < s.heap.objs.size := by obtain ⟨_, q, _⟩ := hit; exact Heap.lt_size q
    obtain ⟨n1, n2⟩ := (apartT p he hit).resolve_right ne
    have iu : i < its.toArray.size := by
      have := (List.getElem?_eq_some_iff.mp hu).1
      simpa using this
    refine wpAny_pyNext_enum_itemD (Draws.tuple (A := X.A.in1) (I.ok.hd hc) it a n1 its.toArray) he ⟨hit, p⟩ iu ne n2 fun y h' tk hy ho st' hT hsz hk => ?_
    have yu : y = u := by
      have hy2 : its.toArray[i]? = some y := hy
      rw [List.getElem?_toArray, hu] at hy2
      exact (Option.some.inj hy2).symm
    subst yu
    refine ⟨_, rfl, wpAny_letOwnedTupleGo_enum (s := { s with heap := h', toks := tk + 1 }) ho fun h2 he2 sb => ?_⟩
    have hT2 : h2.get? s.heap.objs.size = some { cls := .type "tuple", data := .seq #[.int i tk, y] } := (sb.2 _ (Nat.ne_of_gt el)).trans hT
    have pair : ObjOk X.prog X.w (upd H s.heap.objs.size (.tup [.int (i : Nat), x])) h2 s.heap.objs.size (.tup [.int (i : Nat), x]) :=
      ⟨by show 2 ≤ sizeLine; decide, [.int i tk, y], .cons ⟨_, rfl⟩ (.cons ru .nil), ⟨_, hT2, rfl, _, rfl⟩⟩
    have J : Inv X pins σ (upd H s.heap.objs.size (.tup [.int (i : Nat), x])) { s with heap := h2, toks := tk + 1 } :=
      I.turnedNew (ch := [e, it]) (fun b ob hb q => (sb.2 b (fun z => hb (by simp [z]))).trans (hk b ob (fun z => hb (by simp [z])) (fun z => hb (by simp [z])) q)) hf (Nat.le_refl _) pair
    refine ⟨.ref s.heap.objs.size, _, J, rfl, ⟨_, x, rfl, I.hok.fresh (Nat.le_refl _), rfl, fun ys hy => by rw [I.tuple_inj hy hq]; exact hx⟩, ⟨⟨y, ?_⟩, st'.1.at fun o q => (sb.2 it (Ne.symm ne)).trans q, ne⟩, fun b hb => ?_⟩
    · rw [show ((i + 1 : Nat) : Int) = (i : Int) + 1 by omega]; exact he2
    · have bl : b < s.heap.objs.size := by
        rcases (show b = e ∨ b = it by simpa using hb) with z | z
        · subst z; exact el
        · subst z; exact il
      rw [upd_ne (Nat.ne_of_lt bl)]
      exact (hf b hb).1
  done := by
    intro X hP hw hK hc i pins s σ H E I hf st hg
    subst hP hw hK
    obtain ⟨⟨old, he⟩, hit, ne⟩ := st
    obtain ⟨xs, hq, hx⟩ := hg
    obtain ⟨its, rv, p, few⟩ := I.tuple hq
    obtain ⟨n1, n2⟩ := (apartT p he hit).resolve_right ne
    obtain ⟨f0, f1, f2, f3, f4, f5⟩ := hf it (by simp)
    have hl := rv.length
    have hT : s.TypeIs (.ref e) "enumerate" := ⟨_, he, rfl⟩
    unfold pyNext
    refine wpAny_bind (wpAny_attempt (wpAny_callSpecial?_slot (name := Str.ofString "__next__") hT F.slot_enumerate_next
      (wpAny_call_entry F.slot_enumerate_next hT F.entry_enumerate_next ?_ (F.args_enumerate_next_1 _))))
    show wpAny _ _ (field (.ref e) 2 >>= _) _ _ _
    refine wpAny_bind (wpAny_field he rfl (x := .ref it) rfl ?_)
    refine wpAny_bind (wpAny_nextOf_tuple_end (A := X.A.in1) (I.ok.hd hc) hit p (by simp; omega) fun h' x eb hx' => ?_)
    obtain ⟨o, ho, hc'⟩ := hx'
    refine wpAny_bind (wpAny_isInstance (T := "StopIteration") (b := true) ⟨o, ho, hc'⟩ isSubtype_stop ?_)
    exact wpAny_pure ⟨rfl, I.turned (t' := s.toks) (fun b o hb q => eb b o hb q) f0 f1 f3 f4 f5⟩
  self := fun A i s Q E st h => by
    obtain ⟨⟨_, he⟩, _⟩ := st
    exact wpAny_pyIter_enum he h
/-- enumerate(e): a list or a tuple -/
def iEnA (K : PySem.W.Frag) (ta : TA) : TI := fun σ H R => ta σ H fun vs H1 => ∃ a xs, vs = [.ref a] ∧ ((SqL K H1 a xs ∧ R (Ite K a) H1) ∨ (SqT K H1 a xs ∧ R (IteT K a) H1))
theorem pi_enA {X : Cx} {e : Expr} {ta : TA} {p pos tpos : Pos} {elts : List Expr} {kk : Nat} (hg : Gl X "enumerate") (hm : X.mg "enumerate" = none) (ha : PA X [e] ta) (hs : starEach [e] X.env = [(false, eval e X.env)] := by rfl) :
    PI X (.Tuple elts kk tpos) (.Call (.Name "enumerate" p) [e] [] pos) (iEnA X.K ta) := by
  refine ⟨fun pins s σ H R I h => ?_⟩
  refine Call_ (ld_blt I hg hm boot_enumerate (PyProof.Rows.callWith_type1 (thn (ha.run pos pins s σ H _ I h) fun us s1 ⟨vs, H1, I1, r1, q1⟩ => ?_) hs rfl))
  obtain ⟨a, xs, rfl, ways⟩ := q1
  cases r1 with
  | cons r rr =>
    cases rr
    cases r
    have fresh : ∀ b, b ∈ [s1.heap.objs.size + 1, s1.heap.objs.size] → s1.heap.objs.size ≤ b := fun b hb => by
      rcases (show b = s1.heap.objs.size + 1 ∨ b = s1.heap.objs.size by simpa using hb) with z | z <;> omega
    rcases ways with ⟨hq, q⟩ | ⟨hq, q⟩
    · obtain ⟨its, rv, pl, few⟩ := I1.list hq
      refine call_enumerate_list pl.isList fun h' he hit hsz hk => wpAny_pyIter_enum he ?_
      exact ⟨s1.heap.objs.size + 1, _, _, _, H1, rfl, I1.kept (t' := s1.toks) hk, turn_enum a (s1.heap.objs.size + 1) s1.heap.objs.size, ⟨⟨.none, he⟩, hit, Nat.succ_ne_self _⟩, fun b hb => I1.fpOk (fresh b hb) (I1.hok.fresh (fresh b hb)), q⟩
    · obtain ⟨its, rv, pt, few⟩ := I1.tuple hq
      refine call_enT pt fun h' he hit hk => wpAny_pyIter_enum he ?_
      exact ⟨s1.heap.objs.size + 1, _, _, _, H1, rfl, I1.kept (t' := s1.toks) hk, turn_enT a (s1.heap.objs.size + 1) s1.heap.objs.size, ⟨⟨.none, he⟩, hit, Nat.succ_ne_self _⟩, fun b hb => I1.fpOk (fresh b hb) (I1.hok.fresh (fresh b hb)), q⟩
section
variable {w : Wx} {K : PySem.W.Frag} {ta te : TE} {f g : DTE}
theorem enumA2 {X : Cx} {ta : TA} {p pos tpos : Pos} {elts : List Expr} {kk : Nat} {a : Expr} (e : X.K = K) (hg : Gl X "enumerate") (hm : X.mg "enumerate" = none) (ha : PA X [a] ta) (hs : starEach [a] X.env = [(false, eval a X.env)] := by rfl) : PI X (.Tuple elts kk tpos) (.Call (.Name "enumerate" p) [a] [] pos) (iEnA K ta) := e ▸ pi_enA hg hm ha hs
theorem walkS_enumT {L : Hp} {a : Addr} {xs : List V} {ds : List PyData} (h : Sol L a xs) (r : DVs L xs ds) : WalkS true L (IteT K a) (enD ds) := by
  have hl := r.len
  refine ⟨fun i L' H' s1 s2 hi => ?_, fun L' H' s1 s2 => ?_, fun i d L' H' x H2 s1 s2 hd y => ?_⟩
  · rw [enD_len] at hi
    exact ⟨xs, xs[i]'(by omega), ((h.to s1).to s2).seq, List.getElem?_eq_getElem (by omega)⟩
  · rw [enD_len]
    exact ⟨xs, ((h.to s1).to s2).seq, by omega⟩
  · obtain ⟨T, z, rfl, nT, rfl, y2⟩ := y
    have hx := y2 xs ((h.to s1).to s2).seq
    obtain ⟨d', hd', rfl⟩ := enD_get hd
    obtain ⟨v, h1, h2⟩ := r.get hd'
    rw [hx] at h1
    cases h1
    exact ⟨L', Ext.own nT, same_own s2 (s2.free nT), .inr ⟨T, _, _, rfl, rfl, upd_same, .cons (.int _) (.cons (h2.to s1) .nil)⟩⟩
def dEnA (f : DTA) (ε : Env) (Q : List PyData → Bool → Env → Prop) : Prop := f ε fun rs ε1 => match rs with
  | [.sh (.list ds)] => Q (enD ds) true ε1
  | [.sh (.tuple ds)] => Q (enD ds) true ε1
  | _ => False
theorem si_enA {n : Nat} {t : TA} {f : DTA} (hf : SA w n t f) : SI w true (iEnA K t) (dEnA f) := by
  constructor
  · intro ε A B h q
    refine hf.mono _ _ _ (fun r ε1 q => ?_) q
    split at q
    · exact h _ _ _ q
    · exact h _ _ _ q
    · exact q.elim
  · intro Z O σ ε L H R X q
    refine hf.run Z O σ ε L H _ X (hf.mono _ _ _ (fun r ε1 q => ?_) q)
    intro vs L1 H1 X1 e1 r1 hl np
    split at q
    · rename_i ds
      cases r1 with
      | cons r1 r2 =>
        cases r2
        cases (show DV L1 _ (.list ds) from r1) with
        | lst h1 h2 =>
          have W := walkS_enum (K := K) h1 h2
          exact ⟨_, _, rfl, .inl ⟨SqL.of (X1.lh _ _ h1), q _ L1 H1 X1 e1 W.e fun _ => W⟩⟩
    · rename_i ds
      cases r1 with
      | cons r1 r2 =>
        cases r2
        cases (show DV L1 _ (.tuple ds) from r1) with
        | tup h1 h2 =>
          have W := walkS_enumT (K := K) h1 h2
          exact ⟨_, _, rfl, .inr ⟨(h1.to X1.lh).seq, q _ L1 H1 X1 e1 W.e fun _ => W⟩⟩
    · exact q.elim
end
section
variable {K : PySem.W.Frag} {x : Str} {st : Stmt} {f : Addr} {fd : FuncData} {p1 p2 p3 p4 p5 : Str} (F : Fun K x x st f fd)
include F
theorem b0 (h : ∀ kV doc pm an cdv ct, bindArgs (FnT x st kV doc pm an cdv ct) ⟨[], []⟩ = pure []) : Binds K fd [] [] :=
  F.binds fun kV doc pm an cdv ct us hl => match us, hl with | [], _ => h kV doc pm an cdv ct
theorem b4 (h : ∀ kV doc pm an cdv ct u1 u2 u3 u4, bindArgs (FnT x st kV doc pm an cdv ct) ⟨[u1, u2, u3, u4], []⟩ = pure [(p1, u1), (p2, u2), (p3, u3), (p4, u4)]) : Binds K fd [p1, p2, p3, p4] [] :=
  F.binds fun kV doc pm an cdv ct us hl => match us, hl with | [u1, u2, u3, u4], _ => h kV doc pm an cdv ct u1 u2 u3 u4
theorem b5 (h : ∀ kV doc pm an cdv ct u1 u2 u3 u4 u5, bindArgs (FnT x st kV doc pm an cdv ct) ⟨[u1, u2, u3, u4, u5], []⟩ = pure [(p1, u1), (p2, u2), (p3, u3), (p4, u4), (p5, u5)]) : Binds K fd [p1, p2, p3, p4, p5] [] :=
  F.binds fun kV doc pm an cdv ct us hl => match us, hl with | [u1, u2, u3, u4, u5], _ => h kV doc pm an cdv ct u1 u2 u3 u4 u5
theorem r4 (h : ∀ kV doc pm an cdv ct u1 u2 u3 u4, bindArgs (FnT x st kV doc pm an cdv ct) ⟨[], [(p4, u1), (p3, u2), (p2, u3), (p1, u4)]⟩ = pure [(p1, u4), (p2, u3), (p3, u2), (p4, u1)]) : KbR fd [p1, p2, p3, p4] :=
  Fun.kbr F fun kV doc pm an cdv ct us hl => match us, hl with | [u1, u2, u3, u4], _ => h kV doc pm an cdv ct u1 u2 u3 u4
end
def φIsNB (x y : PyData) (Q : R → Prop) : Prop := match x, y with
  | .bool a, .bool b => Q (.sh (.bool (!decide (a = b))))
  | _, _ => False
end Lp

namespace Lp
open PySem PySem.Spec PyProof.Rows L2
def gt (ns : List Int) (i : Int) : Int := ns.getD i.toNat 0
def call1 (ns : List Int) (w : Int) : List Int := ns.set w.toNat (gt ns (gt ns w))
def callAll (ns ws : List Int) : List Int := ws.foldl call1 ns
theorem call1_len (ns : List Int) (w : Int) : (call1 ns w).length = ns.length := by unfold call1; rw [List.length_set]
theorem callAll_len : ∀ (ws ns : List Int), (callAll ns ws).length = ns.length
  | [], _ => rfl
  | w :: ws, ns => by
    show (callAll (call1 ns w) ws).length = ns.length
    rw [callAll_len ws, call1_len]
theorem gt_get {ns : List Int} {i : Int} (h0 : 0 ≤ i) (h1 : i < (ns.length : Int)) : ns[i.toNat]? = some (gt ns i) := by
  unfold gt
  have hl : i.toNat < ns.length := by omega
  rw [List.getD_eq_getElem?_getD, List.getElem?_eq_getElem hl]; rfl
theorem gt_low {n : Nat} {ns : List Int} {i : Int} (h : Low n ns) (h0 : 0 ≤ i) (h1 : i < (ns.length : Int)) : 0 ≤ gt ns i ∧ gt ns i < (n : Int) := h.at (gt_get h0 h1)
theorem call1_low {n : Nat} {ns : List Int} {w : Int} (h : Low n ns) (hn : ns.length = n) (h0 : 0 ≤ w) (h1 : w < (n : Int)) : Low n (call1 ns w) := by
  have a := gt_low h h0 (by omega)
  have b := gt_low h a.1 (by omega)
  exact h.set b.1 b.2
theorem callAll_low {n : Nat} : ∀ (ws ns : List Int), Low n ns → ns.length = n → Low n ws → Low n (callAll ns ws)
  | [], _, h, _, _ => h
  | w :: ws, ns, h, hn, hw => by
    have q := hw w (List.mem_cons_self)
    exact callAll_low ws (call1 ns w) (call1_low h hn q.1 q.2) (by rw [call1_len]; exact hn) fun z hz => hw z (List.mem_cons_of_mem _ hz)
theorem Low.take {n : Nat} {ws : List Int} (h : Low n ws) (i : Nat) : Low n (ws.take i) := fun z hz => h z (List.mem_of_mem_take hz)
/-- a call changes nothing exactly if the person points at a root -/
theorem call1_idle {ns : List Int} {w : Int} (h0 : 0 ≤ w) (h1 : w < (ns.length : Int)) : call1 ns w = ns ↔ gt ns (gt ns w) = gt ns w := by
  have g := gt_get h0 h1
  have hl : w.toNat < ns.length := by omega
  unfold call1
  constructor
  · intro e
    have e2 : (ns.set w.toNat (gt ns (gt ns w)))[w.toNat]? = some (gt ns (gt ns w)) := List.getElem?_set_self hl
    rw [e, g] at e2
    exact (Option.some.inj e2).symm
  · intro e
    rw [e]
    apply List.ext_getElem?
    intro i
    by_cases hi : w.toNat = i
    · subst hi
      rw [List.getElem?_set_self hl, g]
    · rw [List.getElem?_set_ne hi]
def itr (ns : List Int) (p : Int) : Nat → Int
  | 0 => p
  | k + 1 => gt ns (itr ns p k)
theorem itr_succ (ns : List Int) (p : Int) : ∀ k, itr ns p (k + 1) = itr ns (gt ns p) k
  | 0 => rfl
  | k + 1 => by
    show gt ns (itr ns p (k + 1)) = gt ns (itr ns (gt ns p) k)
    rw [itr_succ ns p k]
theorem itr_low {ns : List Int} (lo : Low ns.length ns) {p : Int} (h0 : 0 ≤ p) (h1 : p < (ns.length : Int)) : ∀ k, 0 ≤ itr ns p k ∧ itr ns p k < (ns.length : Int)
  | 0 => ⟨h0, h1⟩
  | k + 1 => by
    have ih := itr_low lo h0 h1 k
    exact gt_low lo ih.1 ih.2
def itrs (ns : List Int) (p : Int) (m : Nat) : List Int := (List.range m).map (itr ns p)
theorem itrs_len (ns : List Int) (p : Int) (m : Nat) : (itrs ns p m).length = m := by unfold itrs; rw [List.length_map, List.length_range]
theorem itrs_succ (ns : List Int) (p : Int) (m : Nat) : itrs ns p (m + 1) = itrs ns p m ++ [itr ns p m] := by
  unfold itrs; rw [List.range_succ, List.map_append]; rfl
theorem itrs_get {ns : List Int} {p : Int} {m i : Nat} (h : i < m) : (itrs ns p m)[i]? = some (itr ns p i) := by
  unfold itrs
  rw [List.getElem?_map, List.getElem?_range h]; rfl
theorem itrs_mem {ns : List Int} {p z : Int} {m : Nat} : z ∈ itrs ns p m ↔ ∃ i, i < m ∧ itr ns p i = z := by
  unfold itrs
  rw [List.mem_map]
  constructor
  · rintro ⟨i, hi, e⟩; exact ⟨i, List.mem_range.mp hi, e⟩
  · rintro ⟨i, hi, e⟩; exact ⟨i, List.mem_range.mpr hi, e⟩
/-- rs: the people met from p on, each once -/
def Route (ns : List Int) (p : Int) (rs : List Int) : Prop := ∃ L, rs = itrs ns p L ∧ rs.Nodup ∧ itr ns p L ∈ rs
theorem itrs_apart {ns : List Int} {p : Int} {m i j : Nat} (nd : (itrs ns p m).Nodup) (hi : i < m) (hj : j < m) (e : itr ns p i = itr ns p j) : i = j := by
  have h1 := itrs_get (ns := ns) (p := p) hi
  have h2 := itrs_get (ns := ns) (p := p) hj
  rw [e] at h1
  exact nd_ix nd h1 h2
theorem Route.eq {ns : List Int} {p : Int} {rs rs' : List Int} (a : Route ns p rs) (b : Route ns p rs') : rs = rs' := by
  obtain ⟨L, rfl, n1, m1⟩ := a
  obtain ⟨M, rfl, n2, m2⟩ := b
  obtain ⟨i, hi, ei⟩ := itrs_mem.mp m1
  obtain ⟨j, hj, ej⟩ := itrs_mem.mp m2
  rcases Nat.lt_trichotomy L M with h | h | h
  · exact absurd (itrs_apart n2 (show i < M by omega) h ei) (by omega)
  · rw [h]
  · exact absurd (itrs_apart n1 (show j < L by omega) h ej) (by omega)
theorem Nodup.snoc {l : List Int} {z : Int} (h : l.Nodup) (n : z ∉ l) : (l ++ [z]).Nodup := by
  rw [List.nodup_append]
  refine ⟨h, List.nodup_cons.mpr ⟨List.not_mem_nil, List.nodup_nil⟩, fun a ha b hb => ?_⟩
  rw [List.mem_singleton] at hb
  subst hb
  exact fun e => n (e ▸ ha)
theorem low_len : ∀ (n : Nat) (l : List Int), l.Nodup → Low n l → l.length ≤ n
  | 0, l, _, h => by
    cases l with
    | nil => exact Nat.le_refl 0
    | cons x r => have := h x List.mem_cons_self; omega
  | n + 1, l, nd, h => by
    have h2 := low_len n (l.filter (fun z => decide (z ≠ (n : Int)))) (nd.filter _) fun z hz => by
      have q := List.mem_filter.mp hz
      have := h z q.1
      have := of_decide_eq_true q.2
      omega
    have h3 : l.length ≤ (l.filter (fun z => decide (z ≠ (n : Int)))).length + 1 := by
      clear h h2
      induction l with
      | nil => simp
      | cons x r ih =>
        have nd' := List.nodup_cons.mp nd
        by_cases hx : x = (n : Int)
        · have e : r.filter (fun z => decide (z ≠ (n : Int))) = r := List.filter_eq_self.mpr fun z hz => decide_eq_true fun e => nd'.1 (by rw [hx, ← e]; exact hz)
          rw [List.filter_cons_of_neg (by simp [hx]), e]; exact Nat.le_refl _
        · rw [List.filter_cons_of_pos (by simp [hx]), List.length_cons, List.length_cons]
          have := ih nd'.2
          omega
    omega
/-- behind the first return the pointers go round -/
theorem itr_round {ns : List Int} {p : Int} {b d : Nat} (h : itr ns p (b + d) = itr ns p b) : ∀ t, itr ns p (b + d + t) = itr ns p (b + t)
  | 0 => h
  | t + 1 => by
    show gt ns (itr ns p (b + d + t)) = gt ns (itr ns p (b + t))
    rw [itr_round h t]
theorem itr_mod {ns : List Int} {p : Int} {b d : Nat} (hd : 0 < d) (h : itr ns p (b + d) = itr ns p b) (t : Nat) : itr ns p (b + t) = itr ns p (b + t % d) := by
  induction t using Nat.strongRecOn with
  | ind t ih =>
    by_cases ht : t < d
    · rw [Nat.mod_eq_of_lt ht]
    · have e : t = d + (t - d) := by omega
      have := ih (t - d) (by omega)
      rw [e, ← Nat.add_assoc, itr_round h, this, Nat.add_mod_left]
def routeG (ns : List Int) : Nat → List Int → Int → List Int
  | 0, acc, _ => acc
  | k + 1, acc, at_ => if at_ ∈ acc then acc else routeG ns k (acc ++ [at_]) (gt ns at_)
def routeF (ns : List Int) (p : Int) : List Int := routeG ns (ns.length + 1) [] p
theorem routeG_ok {ns : List Int} (lo : Low ns.length ns) {p : Int} (p0 : 0 ≤ p) (p1 : p < (ns.length : Int)) : ∀ (k L : Nat), (itrs ns p L).Nodup → ns.length < k + L → Route ns p (routeG ns k (itrs ns p L) (itr ns p L))
  | 0, L, nd, h => by
    have := low_len ns.length _ nd fun z hz => by
      obtain ⟨i, _, ei⟩ := itrs_mem.mp hz
      have := itr_low lo p0 p1 i
      omega
    rw [itrs_len] at this
    omega
  | k + 1, L, nd, h => by
    unfold routeG
    by_cases hm : itr ns p L ∈ itrs ns p L
    · rw [if_pos hm]
      exact ⟨L, rfl, nd, hm⟩
    · rw [if_neg hm, ← itrs_succ]
      exact routeG_ok lo p0 p1 k (L + 1) (by rw [itrs_succ]; exact Nodup.snoc nd hm) (by omega)
theorem routeF_ok {ns : List Int} (lo : Low ns.length ns) {p : Int} (p0 : 0 ≤ p) (p1 : p < (ns.length : Int)) : Route ns p (routeF ns p) := routeG_ok lo p0 p1 (ns.length + 1) 0 List.nodup_nil (by omega)
def beginF (ns rs : List Int) : Nat := rs.idxOf (gt ns (rs.getLastD 0))
def minF : List Int → Int
  | [] => 0
  | x :: r => r.foldl (fun a b => if b < a then b else a) x
theorem fold_min : ∀ (r : List Int) (x : Int), (r.foldl (fun a b => if b < a then b else a) x = x ∨ r.foldl (fun a b => if b < a then b else a) x ∈ r) ∧ r.foldl (fun a b => if b < a then b else a) x ≤ x ∧ ∀ y ∈ r, r.foldl (fun a b => if b < a then b else a) x ≤ y
  | [], x => ⟨.inl rfl, Int.le_refl x, fun y h => nomatch h⟩
  | z :: r, x => by
    have ih := fold_min r (if z < x then z else x)
    show (r.foldl _ (if z < x then z else x) = x ∨ _) ∧ _
    refine ⟨?_, ?_, ?_⟩
    · rcases ih.1 with h | h
      · by_cases q : z < x
        · right
          show r.foldl _ (if z < x then z else x) ∈ z :: r
          rw [h, if_pos q]; exact List.mem_cons_self
        · left
          show r.foldl _ (if z < x then z else x) = x
          rw [h, if_neg q]
      · right; exact List.mem_cons_of_mem _ h
    · show r.foldl _ (if z < x then z else x) ≤ x
      have := ih.2.1
      split at this <;> rename_i q
      · rw [if_pos q]; omega
      · rw [if_neg q]; exact this
    · intro y hy
      show r.foldl _ (if z < x then z else x) ≤ y
      rcases List.mem_cons.mp hy with h | h
      · have := ih.2.1
        split at this <;> rename_i q
        · rw [if_pos q, h]; exact this
        · rw [if_neg q, h]; omega
      · exact ih.2.2 y h
theorem minF_ok {ms : List Int} (h : ms ≠ []) : minF ms ∈ ms ∧ ∀ y ∈ ms, minF ms ≤ y := by
  cases ms with
  | nil => exact absurd rfl h
  | cons x r =>
    have := fold_min r x
    refine ⟨?_, fun y hy => ?_⟩
    · rcases this.1 with e | e
      · show r.foldl _ x ∈ x :: r
        rw [e]; exact List.mem_cons_self
      · exact List.mem_cons_of_mem _ e
    · rcases List.mem_cons.mp hy with e | e
      · rw [e]; exact this.2.1
      · exact this.2.2 y e
/-- the list, turned so that its least member is the first -/
def turnF (ms : List Int) : List Int := ms.drop (ms.idxOf (minF ms)) ++ ms.take (ms.idxOf (minF ms))
def ringF (ns : List Int) (p : Int) : List Int := turnF ((routeF ns p).drop (beginF ns (routeF ns p)))
def heightF (ns : List Int) (p : Int) : Nat := beginF ns (routeF ns p)
theorem turnF_ne {ms : List Int} (h : ms ≠ []) : turnF ms ≠ [] := by
  intro e
  have := congrArg List.length e
  unfold turnF at this
  rw [List.length_append, List.length_drop, List.length_take, List.length_nil] at this
  have : ms.length = 0 := by omega
  exact h (List.eq_nil_of_length_eq_zero this)
/-- how a whole route begins its ring -/
theorem begin_at {ns : List Int} {p : Int} {L : Nat} (nd : (itrs ns p L).Nodup) (hin : itr ns p L ∈ itrs ns p L) {b : Nat} (hb : b < L) (eb : itr ns p b = itr ns p L) : beginF ns (itrs ns p L) = b := by
  obtain ⟨M, rfl⟩ : ∃ M, L = M + 1 := ⟨L - 1, by omega⟩
  unfold beginF
  have e : (itrs ns p (M + 1)).getLastD 0 = itr ns p M := by rw [itrs_succ]; simp
  rw [e]
  have hin' : gt ns (itr ns p M) ∈ itrs ns p (M + 1) := hin
  have h1 := idx_get hin'
  have hl := List.idxOf_lt_length_of_mem hin'
  rw [itrs_len] at hl
  rw [itrs_get hl] at h1
  exact itrs_apart nd hl hb ((Option.some.inj h1).trans eb.symm)
theorem lex_uniq : ∀ (a b : List (List Int)), a.Nodup → b.Nodup → a.Pairwise (fun x y => HT.lexLt y x = false) → b.Pairwise (fun x y => HT.lexLt y x = false) → (∀ k, k ∈ a ↔ k ∈ b) → a = b
  | [], [], _, _, _, _, _ => rfl
  | [], y :: _, _, _, _, _, h => nomatch (h y).mpr List.mem_cons_self
  | x :: _, [], _, _, _, _, h => nomatch (h x).mp List.mem_cons_self
  | x :: a, y :: b, na, nb, pa, pb, h => by
    have qa := List.pairwise_cons.mp pa
    have qb := List.pairwise_cons.mp pb
    have ra := List.nodup_cons.mp na
    have rb := List.nodup_cons.mp nb
    have e : x = y := by
      rcases List.mem_cons.mp ((h x).mp List.mem_cons_self) with e | e
      · exact e
      · rcases List.mem_cons.mp ((h y).mpr List.mem_cons_self) with e2 | e2
        · exact e2.symm
        · exact lex_eq x y (qb.1 x e) (qa.1 y e2)
    subst e
    have h2 : ∀ k, k ∈ a ↔ k ∈ b := fun k => by
      constructor
      · intro hk
        rcases List.mem_cons.mp ((h k).mp (List.mem_cons_of_mem _ hk)) with z | z
        · exact absurd (z ▸ hk) ra.1
        · exact z
      · intro hk
        rcases List.mem_cons.mp ((h k).mpr (List.mem_cons_of_mem _ hk)) with z | z
        · exact absurd (z ▸ hk) rb.1
        · exact z
    rw [lex_uniq a b ra.2 rb.2 qa.2 qb.2 h2]
/-- RS: all rings, ascending -/
def RingsOf (ns : List Int) (RS : List (List Int)) : Prop := RS.Nodup ∧ RS.Pairwise (fun x y => HT.lexLt y x = false) ∧ ∀ k, k ∈ RS ↔ ∃ j : Nat, j < ns.length ∧ ringF ns (j : Int) = k
theorem RingsOf.eq {ns : List Int} {a b : List (List Int)} (x : RingsOf ns a) (y : RingsOf ns b) : a = b := lex_uniq a b x.1 y.1 x.2.1 y.2.1 fun k => (x.2.2 k).trans (y.2.2 k).symm

theorem itr_add (ns : List Int) (p : Int) (a : Nat) : ∀ b, itr ns p (a + b) = itr ns (itr ns p a) b
  | 0 => rfl
  | b + 1 => congrArg (gt ns) (itr_add ns p a b)
theorem itrs_cat (ns : List Int) (p : Int) (a : Nat) : ∀ b, itrs ns p (a + b) = itrs ns p a ++ itrs ns (itr ns p a) b
  | 0 => (List.append_nil _).symm
  | b + 1 => by
    rw [← Nat.add_assoc, itrs_succ, itrs_cat ns p a b, itrs_succ, itr_add, List.append_assoc]
def Cyc (ns : List Int) (q : Int) (c : Nat) : Prop := 0 < c ∧ itr ns q c = q ∧ (itrs ns q c).Nodup
theorem Cyc.cut {ns : List Int} {q : Int} {c j : Nat} (h : j ≤ c) : (itrs ns q c).drop j = itrs ns (itr ns q j) (c - j) ∧ (itrs ns q c).take j = itrs ns q j := by
  obtain ⟨d, rfl⟩ : ∃ d, c = j + d := ⟨c - j, by omega⟩
  rw [itrs_cat, Nat.add_sub_cancel_left]
  have l := itrs_len ns q j
  constructor
  · conv => lhs; arg 1; rw [← l]
    rw [List.drop_left]
  · conv => lhs; arg 1; rw [← l]
    rw [List.take_left]
theorem Cyc.turn {ns : List Int} {q : Int} {c j : Nat} (x : Cyc ns q c) (h : j ≤ c) : itrs ns (itr ns q j) c = (itrs ns q c).drop j ++ (itrs ns q c).take j := by
  rw [(Cyc.cut h).1, (Cyc.cut h).2]
  have e : itrs ns (itr ns q j) c = itrs ns (itr ns q j) ((c - j) + j) := by congr 1; omega
  rw [e, itrs_cat, ← itr_add]
  have e2 : j + (c - j) = c := by omega
  rw [e2, x.2.1]
theorem Cyc.all {ns : List Int} {q : Int} {c : Nat} (x : Cyc ns q c) (t : Nat) : itr ns q t ∈ itrs ns q c := by
  have := itr_mod (ns := ns) (p := q) (b := 0) (d := c) x.1 (by rw [Nat.zero_add]; exact x.2.1) t
  rw [Nat.zero_add, Nat.zero_add] at this
  rw [this]
  exact itrs_mem.mpr ⟨t % c, Nat.mod_lt _ x.1, rfl⟩
theorem Cyc.at {ns : List Int} {q z : Int} {c : Nat} (x : Cyc ns q c) (h : z ∈ itrs ns q c) : Cyc ns z c ∧ ∀ y, y ∈ itrs ns z c ↔ y ∈ itrs ns q c := by
  obtain ⟨j, hj, rfl⟩ := itrs_mem.mp h
  have t := x.turn (j := j) (by omega)
  have pm : (itrs ns (itr ns q j) c).Perm (itrs ns q c) := by
    rw [t]
    have := List.perm_append_comm (l₁ := (itrs ns q c).drop j) (l₂ := (itrs ns q c).take j)
    rw [List.take_append_drop] at this
    exact this
  refine ⟨⟨x.1, ?_, pm.nodup_iff.mpr x.2.2⟩, fun y => pm.mem_iff⟩
  rw [← itr_add, Nat.add_comm, itr_add, x.2.1]
theorem Cyc.uniq {ns : List Int} {z : Int} {c d : Nat} (x : Cyc ns z c) (y : Cyc ns z d) : c = d := by
  rcases Nat.lt_trichotomy c d with h | h | h
  · have := itrs_apart y.2.2 (i := 0) (j := c) y.1 h x.2.1.symm
    have := x.1; omega
  · exact h
  · have := itrs_apart x.2.2 (i := 0) (j := d) x.1 h y.2.1.symm
    have := y.1; omega
theorem itrs_ne {ns : List Int} {q : Int} {c : Nat} (h : 0 < c) : itrs ns q c ≠ [] := fun e => by
  have := itrs_len ns q c
  rw [e] at this
  simp at this; omega
theorem Cyc.turnF {ns : List Int} {q : Int} {c : Nat} (x : Cyc ns q c) : turnF (itrs ns q c) = itrs ns (minF (itrs ns q c)) c := by
  have m := minF_ok (itrs_ne (ns := ns) (q := q) x.1)
  have il := List.idxOf_lt_length_of_mem m.1
  have g := idx_get m.1
  unfold Lp.turnF
  generalize hj : (itrs ns q c).idxOf (minF (itrs ns q c)) = j at il g
  rw [itrs_len] at il
  rw [itrs_get il] at g
  rw [← Option.some.inj g, x.turn (by omega)]
theorem Cyc.same {ns : List Int} {q r z : Int} {c d : Nat} (x : Cyc ns q c) (y : Cyc ns r d) (h1 : z ∈ itrs ns q c) (h2 : z ∈ itrs ns r d) : Lp.turnF (itrs ns q c) = Lp.turnF (itrs ns r d) := by
  have a := x.at h1
  have b := y.at h2
  have e := a.1.uniq b.1
  subst e
  rw [x.turnF, y.turnF]
  have m1 := minF_ok (itrs_ne (ns := ns) (q := q) x.1)
  have m2 := minF_ok (itrs_ne (ns := ns) (q := r) x.1)
  have := m1.2 _ ((a.2 _).mp ((b.2 _).mpr m2.1))
  have := m2.2 _ ((b.2 _).mp ((a.2 _).mpr m1.1))
  have e : minF (itrs ns q c) = minF (itrs ns r c) := by omega
  rw [e]
theorem ringF_cyc {ns : List Int} (lo : Low ns.length ns) {p : Int} (p0 : 0 ≤ p) (p1 : p < (ns.length : Int)) : ∃ c, Cyc ns (itr ns p (heightF ns p)) c ∧ ringF ns p = turnF (itrs ns (itr ns p (heightF ns p)) c) ∧ routeF ns p = itrs ns p (heightF ns p + c) := by
  have rt := routeF_ok lo p0 p1
  obtain ⟨L, hrs, nd, hin⟩ := id rt
  rw [hrs] at nd hin
  obtain ⟨b, hb, eb⟩ := itrs_mem.mp hin
  have e := begin_at nd hin hb eb
  have eh : heightF ns p = b := by unfold heightF; rw [hrs]; exact e
  have ct := Cyc.cut (ns := ns) (q := p) (c := L) (j := b) (by omega)
  rw [eh]
  refine ⟨L - b, ⟨by omega, ?_, ?_⟩, ?_, ?_⟩
  · rw [← itr_add]
    have : b + (L - b) = L := by omega
    rw [this, eb]
  · rw [← ct.1]
    exact nd.sublist (List.drop_sublist b _)
  · unfold ringF
    rw [hrs, e, ct.1]
  · rw [hrs]; congr 1; omega
theorem ringF_step {ns : List Int} (lo : Low ns.length ns) {p : Int} (p0 : 0 ≤ p) (p1 : p < (ns.length : Int)) : ringF ns (gt ns p) = ringF ns p := by
  have g := gt_low lo p0 (by omega)
  obtain ⟨c, x, e, _⟩ := ringF_cyc lo p0 p1
  obtain ⟨d, y, e2, _⟩ := ringF_cyc lo g.1 g.2
  rw [e, e2]
  refine y.same x (z := itr ns p (heightF ns p + (heightF ns (gt ns p) + 1))) ?_ ?_
  · have : heightF ns p + (heightF ns (gt ns p) + 1) = (heightF ns (gt ns p) + heightF ns p) + 1 := by omega
    rw [this, itr_succ, itr_add]
    exact y.all _
  · rw [itr_add]
    exact x.all _
theorem ringF_itr {ns : List Int} (lo : Low ns.length ns) {p : Int} (p0 : 0 ≤ p) (p1 : p < (ns.length : Int)) : ∀ k, ringF ns (itr ns p k) = ringF ns p
  | 0 => rfl
  | k + 1 => by
    have l := itr_low lo p0 p1 k
    show ringF ns (gt ns (itr ns p k)) = _
    rw [ringF_step lo l.1 l.2, ringF_itr lo p0 p1 k]
/-- a ring: its least member first, each member pointing at the next one -/
theorem ringF_form {ns : List Int} (lo : Low ns.length ns) {p : Int} (p0 : 0 ≤ p) (p1 : p < (ns.length : Int)) : ∃ m c, ringF ns p = itrs ns m c ∧ Cyc ns m c ∧ (∀ y ∈ ringF ns p, m ≤ y) ∧ 0 ≤ m ∧ m < (ns.length : Int) := by
  obtain ⟨c, x, e, _⟩ := ringF_cyc lo p0 p1
  have m := minF_ok (itrs_ne (ns := ns) (q := itr ns p (heightF ns p)) x.1)
  have a := x.at m.1
  have l := itr_low lo p0 p1 (heightF ns p)
  refine ⟨_, c, e.trans x.turnF, a.1, fun y hy => ?_, ?_⟩
  · rw [e, x.turnF] at hy
    exact m.2 y ((a.2 y).mp hy)
  · obtain ⟨i, _, ei⟩ := itrs_mem.mp m.1
    rw [← ei]
    exact itr_low lo l.1 l.2 i

/-- the way on from the last one met on a way: the whole ring -/
theorem lap_of {ns : List Int} (lo : Low ns.length ns) {q : Int} (q0 : 0 ≤ q) (q1 : q < (ns.length : Int)) {L : Nat} (rt : Route ns q (itrs ns q L)) : ∃ M z c, L = M + 1 ∧ gt ns (itr ns q M) = z ∧ Cyc ns z c ∧ ringF ns q = turnF (itrs ns z c) ∧ Route ns z (itrs ns z c) := by
  obtain ⟨c, x, e1, e2⟩ := ringF_cyc lo q0 q1
  have e := rt.eq (routeF_ok lo q0 q1)
  rw [e2] at e
  have el := congrArg List.length e
  rw [itrs_len, itrs_len] at el
  have c0 := x.1
  refine ⟨L - 1, itr ns q (heightF ns q), c, by omega, ?_, x, e1, ⟨c, rfl, x.2.2, ?_⟩⟩
  · show itr ns q (L - 1 + 1) = _
    have : L - 1 + 1 = heightF ns q + c := by omega
    rw [this, itr_add, x.2.1]
  · exact x.all c

def headF (ns : List Int) (p : Int) : Int := (ringF ns p).headD 0
theorem headF_form {ns : List Int} (lo : Low ns.length ns) {p : Int} (p0 : 0 ≤ p) (p1 : p < (ns.length : Int)) : ∃ c, ringF ns p = itrs ns (headF ns p) c ∧ Cyc ns (headF ns p) c ∧ 0 ≤ headF ns p ∧ headF ns p < (ns.length : Int) := by
  obtain ⟨m, c, e, cy, _, m0, m1⟩ := ringF_form lo p0 p1
  have em : headF ns p = m := by
    unfold headF
    obtain ⟨d, rfl⟩ : ∃ d, c = 1 + d := ⟨c - 1, by have := cy.1; omega⟩
    rw [e, itrs_cat]; rfl
  rw [em]
  exact ⟨c, e, cy, m0, m1⟩
theorem head_iff {ns : List Int} (lo : Low ns.length ns) {p q : Int} (p0 : 0 ≤ p) (p1 : p < (ns.length : Int)) (q0 : 0 ≤ q) (q1 : q < (ns.length : Int)) : headF ns p = headF ns q ↔ ringF ns p = ringF ns q := by
  constructor
  · intro e
    obtain ⟨c, e1, cy, _⟩ := headF_form lo p0 p1
    obtain ⟨d, e2, dy, _⟩ := headF_form lo q0 q1
    rw [e] at e1 cy
    rw [e1, e2, cy.uniq dy]
  · intro e
    unfold headF
    rw [e]
/-- the people below i whose ring begins with m -/
def compH (ns : List Int) (m : Int) (i : Nat) : List Int := ((List.range i).filter fun j : Nat => decide (headF ns (j : Int) = m)).map Int.ofNat
theorem compH_succ (ns : List Int) (m : Int) (i : Nat) : compH ns m (i + 1) = if headF ns (i : Int) = m then compH ns m i ++ [(i : Int)] else compH ns m i := by
  unfold compH
  rw [List.range_succ, List.filter_append, List.map_append]
  by_cases h : headF ns (i : Int) = m
  · rw [if_pos h, List.filter_cons_of_pos (p := fun j : Nat => decide (headF ns (j : Int) = m)) (decide_eq_true h)]; rfl
  · rw [if_neg h, List.filter_cons_of_neg (p := fun j : Nat => decide (headF ns (j : Int) = m)) (by rw [decide_eq_false h]; exact Bool.false_ne_true)]
    show _ ++ [] = _
    rw [List.append_nil]
theorem compH_mem {ns : List Int} {m z : Int} {i : Nat} : z ∈ compH ns m i ↔ ∃ j : Nat, j < i ∧ headF ns (j : Int) = m ∧ z = (j : Int) := by
  unfold compH
  rw [List.mem_map]
  constructor
  · rintro ⟨j, hj, e⟩
    have q := List.mem_filter.mp hj
    exact ⟨j, List.mem_range.mp q.1, of_decide_eq_true q.2, e.symm⟩
  · rintro ⟨j, hj, e, rfl⟩
    exact ⟨j, List.mem_filter.mpr ⟨List.mem_range.mpr hj, decide_eq_true e⟩, rfl⟩
theorem compH_len (ns : List Int) (m : Int) (i : Nat) : (compH ns m i).length ≤ i := by
  unfold compH
  rw [List.length_map]
  have := List.length_filter_le (fun j : Nat => decide (headF ns (j : Int) = m)) (List.range i)
  rw [List.length_range] at this
  exact this
def compF (ns : List Int) (p : Int) : List Int := compH ns (headF ns p) ns.length
def CompsOf (ns : List Int) (CS : List (List Int)) : Prop := CS.Nodup ∧ CS.Pairwise (fun x y => HT.lexLt y x = false) ∧ ∀ k, k ∈ CS ↔ ∃ j : Nat, j < ns.length ∧ compF ns (j : Int) = k
theorem CompsOf.eq {ns : List Int} {a b : List (List Int)} (x : CompsOf ns a) (y : CompsOf ns b) : a = b := lex_uniq a b x.1 y.1 x.2.1 y.2.1 fun k => (x.2.2 k).trans (y.2.2 k).symm
theorem comps_of {ns : List Int} {ms : List Int} {CS : List (List Int)} (n1 : ms.Nodup) (ks : ∀ m, m ∈ ms ↔ ∃ j : Nat, j < ns.length ∧ headF ns (j : Int) = m) (pm : CS.Perm (ms.map fun m => compH ns m ns.length)) (rk : CS.Pairwise (fun x y => HT.lexLt y x = false)) : CompsOf ns CS := by
  refine ⟨pm.nodup_iff.mpr ?_, rk, fun k => ?_⟩
  · refine List.pairwise_map.mpr (List.Pairwise.imp_of_mem (fun {a b} ha hb ne e => ?_) n1)
    obtain ⟨j, hj, ej⟩ := (ks a).mp ha
    have h1 : (j : Int) ∈ compH ns a ns.length := compH_mem.mpr ⟨j, hj, ej, rfl⟩
    have e' : compH ns a ns.length = compH ns b ns.length := e
    rw [e'] at h1
    obtain ⟨j', _, e2, e3⟩ := compH_mem.mp h1
    have : j' = j := by omega
    subst this
    exact ne (ej.symm.trans e2)
  · rw [pm.mem_iff, List.mem_map]
    constructor
    · rintro ⟨m, hm, e⟩
      obtain ⟨j, hj, ej⟩ := (ks m).mp hm
      exact ⟨j, hj, by unfold compF; rw [ej]; exact e⟩
    · rintro ⟨j, hj, e⟩
      exact ⟨_, (ks _).mpr ⟨j, hj, rfl⟩, e⟩
theorem nd_subG {α : Type} [DecidableEq α] : ∀ (a b : List α), a.Nodup → (∀ x ∈ a, x ∈ b) → a.length ≤ b.length
  | [], b, _, _ => Nat.zero_le _
  | x :: a, b, nd, h => by
    have q := List.nodup_cons.mp nd
    have xb := h x List.mem_cons_self
    have := nd_subG a (b.erase x) q.2 fun y hy => (List.mem_erase_of_ne (fun e : y = x => q.1 (by rw [← e]; exact hy))).mpr (h y (List.mem_cons_of_mem _ hy))
    rw [List.length_erase_of_mem xb] at this
    have := List.length_pos_of_mem xb
    rw [List.length_cons]; omega
theorem CompsOf.len {ns : List Int} {CS : List (List Int)} (h : CompsOf ns CS) : CS.length ≤ ns.length := by
  have := nd_subG CS ((List.range ns.length).map fun j : Nat => compF ns (j : Int)) h.1 fun x hx => by
    obtain ⟨j, hj, e⟩ := (h.2.2 x).mp hx
    exact List.mem_map.mpr ⟨j, List.mem_range.mpr hj, e⟩
  rw [List.length_map, List.length_range] at this
  exact this
/-- together they hold everybody once -/
theorem CompsOf.sum {ns : List Int} {CS : List (List Int)} (h : CompsOf ns CS) : (CS.map List.length).sum = ns.length := by
  rw [← List.length_flatten]
  have nd : CS.flatten.Nodup := by
    refine List.pairwise_flatten.mpr ⟨fun l hl => ?_, List.Pairwise.imp_of_mem (fun {a b} ha hb ne x hx y hy e => ?_) h.1⟩
    · obtain ⟨j, _, e⟩ := (h.2.2 l).mp hl
      rw [← e]
      refine List.pairwise_map.mpr (List.Pairwise.imp (fun {a b} ne e => ne (Int.ofNat.inj e)) (List.Pairwise.filter _ List.nodup_range))
    · subst e
      obtain ⟨i, _, ei⟩ := (h.2.2 a).mp ha
      obtain ⟨j, _, ej⟩ := (h.2.2 b).mp hb
      rw [← ei] at hx
      rw [← ej] at hy
      obtain ⟨u, _, h1, e1⟩ := compH_mem.mp hx
      obtain ⟨v, _, h2, e2⟩ := compH_mem.mp hy
      have : u = v := by omega
      subst this
      refine ne ?_
      rw [← ei, ← ej]
      unfold compF
      rw [← h1, h2]
  refine Nat.le_antisymm (low_len _ _ nd fun z hz => ?_) ?_
  · obtain ⟨l, hl, hz⟩ := List.mem_flatten.mp hz
    obtain ⟨j, _, e⟩ := (h.2.2 l).mp hl
    rw [← e] at hz
    obtain ⟨u, hu, _, eu⟩ := compH_mem.mp hz
    omega
  · have := nd_subG ((List.range ns.length).map Int.ofNat) CS.flatten (List.pairwise_map.mpr (List.Pairwise.imp (fun {a b} ne e => ne (Int.ofNat.inj e)) List.nodup_range)) fun x hx => by
      obtain ⟨j, hj, e⟩ := List.mem_map.mp hx
      have hj' := List.mem_range.mp hj
      refine List.mem_flatten.mpr ⟨compF ns (j : Int), (h.2.2 _).mpr ⟨j, hj', rfl⟩, ?_⟩
      exact compH_mem.mpr ⟨j, hj', rfl, e.symm⟩
    rw [List.length_map, List.length_range] at this
    exact this
theorem gt_callN {ns : List Int} {w p : Int} (w0 : 0 ≤ w) (w1 : w < (ns.length : Int)) (p0 : 0 ≤ p) : gt (call1 ns w) p = if p = w then gt ns (gt ns w) else gt ns p := by
  show (ns.set w.toNat (gt ns (gt ns w))).getD p.toNat 0 = if p = w then _ else ns.getD p.toNat 0
  rw [List.getD_eq_getElem?_getD, List.getD_eq_getElem?_getD, List.getElem?_set]
  by_cases h : p = w
  · subst h
    rw [if_pos rfl, if_pos rfl, if_pos (by omega)]; rfl
  · rw [if_neg h, if_neg (by omega)]
section
variable {ns : List Int} (lo : Low ns.length ns) {w : Int} (w0 : 0 ≤ w) (w1 : w < (ns.length : Int))
include lo w0 w1
theorem low_call : Low (call1 ns w).length (call1 ns w) := by
  rw [call1_len]; exact call1_low lo rfl w0 w1
/-- a step behind the call is one or two steps ahead of it -/
theorem itr_call {p : Int} (p0 : 0 ≤ p) (p1 : p < (ns.length : Int)) : ∀ k, ∃ k', k ≤ k' ∧ itr (call1 ns w) p k = itr ns p k'
  | 0 => ⟨0, Nat.le_refl _, rfl⟩
  | k + 1 => by
    obtain ⟨k', hk, e⟩ := itr_call p0 p1 k
    have l := itr_low lo p0 p1 k'
    have g := gt_callN w0 w1 l.1 (ns := ns)
    have e2 : itr (call1 ns w) p (k + 1) = gt (call1 ns w) (itr ns p k') := congrArg (gt (call1 ns w)) e
    by_cases z : itr ns p k' = w
    · refine ⟨k' + 2, by omega, ?_⟩
      rw [e2, g, if_pos z, ← z]; rfl
    · refine ⟨k' + 1, by omega, ?_⟩
      rw [e2, g, if_neg z]; rfl
theorem ring_stepC {p : Int} (p0 : 0 ≤ p) (p1 : p < (ns.length : Int)) : ringF (call1 ns w) (gt ns p) = ringF (call1 ns w) p := by
  have lc := low_call lo w0 w1
  have len : (call1 ns w).length = ns.length := call1_len _ _
  have g := gt_low lo p0 p1
  by_cases z : p = w
  · subst z
    by_cases y : gt ns p = p
    · rw [y]
    · have s1 := ringF_step lc (p := p) p0 (by rw [len]; exact p1)
      have s2 := ringF_step lc (p := gt ns p) g.1 (by rw [len]; exact g.2)
      rw [gt_callN w0 w1 p0, if_pos rfl] at s1
      rw [gt_callN w0 w1 g.1, if_neg y] at s2
      rw [← s2, s1]
  · have s1 := ringF_step lc (p := p) p0 (by rw [len]; exact p1)
    rw [gt_callN w0 w1 p0, if_neg z] at s1
    exact s1
theorem ring_itrC {p : Int} (p0 : 0 ≤ p) (p1 : p < (ns.length : Int)) : ∀ k, ringF (call1 ns w) (itr ns p k) = ringF (call1 ns w) p
  | 0 => rfl
  | k + 1 => by
    have l := itr_low lo p0 p1 k
    show ringF (call1 ns w) (gt ns (itr ns p k)) = _
    rw [ring_stepC lo w0 w1 l.1 l.2, ring_itrC p0 p1 k]
end
theorem ring_itr {ns : List Int} (lo : Low ns.length ns) {p m : Int} (p0 : 0 ≤ p) (p1 : p < (ns.length : Int)) (h : m ∈ ringF ns p) : ∃ s, itr ns p s = m := by
  obtain ⟨c, x, e, _⟩ := ringF_cyc lo p0 p1
  rw [e, x.turnF] at h
  have mm := minF_ok (itrs_ne (ns := ns) (q := itr ns p (heightF ns p)) x.1)
  obtain ⟨i, _, ei⟩ := itrs_mem.mp (((x.at mm.1).2 m).mp h)
  exact ⟨heightF ns p + i, by rw [itr_add]; exact ei⟩
theorem meet_iff {ns : List Int} (lo : Low ns.length ns) {p r : Int} (p0 : 0 ≤ p) (p1 : p < (ns.length : Int)) (r0 : 0 ≤ r) (r1 : r < (ns.length : Int)) : ringF ns p = ringF ns r ↔ ∃ s t, itr ns p s = itr ns r t := by
  constructor
  · intro e
    obtain ⟨m, c, e1, cy, _⟩ := ringF_form lo p0 p1
    have hm : m ∈ ringF ns p := by rw [e1]; exact itrs_mem.mpr ⟨0, cy.1, rfl⟩
    obtain ⟨s, es⟩ := ring_itr lo p0 p1 hm
    obtain ⟨t, et⟩ := ring_itr lo r0 r1 (e ▸ hm)
    exact ⟨s, t, es.trans et.symm⟩
  · rintro ⟨s, t, e⟩
    rw [← ringF_itr lo p0 p1 s, ← ringF_itr lo r0 r1 t, e]
theorem ring_call {ns : List Int} (lo : Low ns.length ns) {w p r : Int} (w0 : 0 ≤ w) (w1 : w < (ns.length : Int)) (p0 : 0 ≤ p) (p1 : p < (ns.length : Int)) (r0 : 0 ≤ r) (r1 : r < (ns.length : Int)) : ringF ns p = ringF ns r ↔ ringF (call1 ns w) p = ringF (call1 ns w) r := by
  have lc := low_call lo w0 w1
  have len : (call1 ns w).length = ns.length := call1_len _ _
  constructor
  · intro e
    obtain ⟨s, t, e⟩ := (meet_iff lo p0 p1 r0 r1).mp e
    rw [← ring_itrC lo w0 w1 p0 p1 s, ← ring_itrC lo w0 w1 r0 r1 t, e]
  · intro e
    obtain ⟨s, t, e⟩ := (meet_iff lc p0 (by rw [len]; exact p1) r0 (by rw [len]; exact r1)).mp e
    obtain ⟨s', _, es⟩ := itr_call lo w0 w1 p0 p1 s
    obtain ⟨t', _, et⟩ := itr_call lo w0 w1 r0 r1 t
    exact (meet_iff lo p0 p1 r0 r1).mpr ⟨s', t', by rw [← es, ← et]; exact e⟩
theorem comp_call {ns : List Int} (lo : Low ns.length ns) {w : Int} (w0 : 0 ≤ w) (w1 : w < (ns.length : Int)) {p : Nat} (hp : p < ns.length) : compF (call1 ns w) (p : Int) = compF ns (p : Int) := by
  have lc := low_call lo w0 w1
  have len : (call1 ns w).length = ns.length := call1_len _ _
  unfold compF compH
  rw [len]
  congr 1
  refine List.filter_congr fun j hj => ?_
  have hj' := List.mem_range.mp hj
  have a := head_iff lo (p := (j : Int)) (q := (p : Int)) (by omega) (by omega) (by omega) (by omega)
  have b := head_iff lc (p := (j : Int)) (q := (p : Int)) (by omega) (by omega) (by omega) (by omega)
  have c := ring_call lo w0 w1 (p := (j : Int)) (r := (p : Int)) (by omega) (by omega) (by omega) (by omega)
  by_cases z : headF ns (j : Int) = headF ns (p : Int)
  · rw [decide_eq_true z, decide_eq_true (b.mpr (c.mp (a.mp z)))]
  · rw [decide_eq_false z, decide_eq_false (fun y => z (a.mpr (c.mpr (b.mp y))))]
theorem CompsOf.call {ns : List Int} (lo : Low ns.length ns) {w : Int} (w0 : 0 ≤ w) (w1 : w < (ns.length : Int)) {CS : List (List Int)} (h : CompsOf ns CS) : CompsOf (call1 ns w) CS := by
  refine ⟨h.1, h.2.1, fun k => (h.2.2 k).trans ?_⟩
  rw [call1_len]
  constructor
  · rintro ⟨j, hj, e⟩; exact ⟨j, hj, (comp_call lo w0 w1 hj).trans e⟩
  · rintro ⟨j, hj, e⟩; exact ⟨j, hj, (comp_call lo w0 w1 hj).symm.trans e⟩
theorem ring_at {ns : List Int} (lo : Low ns.length ns) {m : Int} (m0 : 0 ≤ m) (m1 : m < (ns.length : Int)) {c : Nat} (cy : Cyc ns m c) : ringF ns m = turnF (itrs ns m c) := by
  obtain ⟨d, x, e, _⟩ := ringF_cyc lo m0 m1
  rw [e]
  exact x.same cy (z := itr ns m (heightF ns m)) (x.all 0) (cy.all _)
theorem turn_self {ns : List Int} {m : Int} {c : Nat} (cy : Cyc ns m c) (least : ∀ y ∈ itrs ns m c, m ≤ y) : turnF (itrs ns m c) = itrs ns m c := by
  rw [cy.turnF]
  have mm := minF_ok (itrs_ne (ns := ns) (q := m) cy.1)
  have := least _ mm.1
  have := mm.2 m (itrs_mem.mpr ⟨0, cy.1, rfl⟩)
  have e : minF (itrs ns m c) = m := by omega
  rw [e]
end Lp

namespace Lp
open PySem PySem.Spec PyProof.Rows L2
def gv (i : Nat) (o : Option SV) (ε : Env) (Q : R → Env → Prop) : Prop := match o with
  | some (.sh d) => Q (.sh d) ε
  | some (.ow ds) => Q (.br i ds) ε
  | some .bx => Q .bx ε
  | some (.raw v) => Q (.raw v) ε
  | some (.st S n) => Q (.sr i S n) ε
  | some (.exn x) => Q (.exn x) ε
  | some (.dco xs) => Q (.dbr i xs) ε
  | some (.sto M) => Q (.srt i M) ε
  | some (.dsh xs) => Q (.dsh xs) ε
  | _ => False
theorem dVar_ (i : Nat) (ε : Env) (Q : R → Env → Prop) : dVar i ε Q = gv i ε.s[i]? ε Q := rfl
section
variable (i : Nat) (ε : Env) (Q : R → Env → Prop)
theorem gv_sh (d : PyData) : gv i (some (.sh d)) ε Q = Q (.sh d) ε := rfl
theorem gv_ow (ds : List PyData) : gv i (some (.ow ds)) ε Q = Q (.br i ds) ε := rfl
theorem gv_bx : gv i (some .bx) ε Q = Q .bx ε := rfl
theorem gv_raw (v : V) : gv i (some (.raw v)) ε Q = Q (.raw v) ε := rfl
theorem gv_dco (xs : List DRow) : gv i (some (.dco xs)) ε Q = Q (.dbr i xs) ε := rfl
theorem gv_sto (M : List (List Int)) : gv i (some (.sto M)) ε Q = Q (.srt i M) ε := rfl
theorem gv_dsh (xs : List DRow) : gv i (some (.dsh xs)) ε Q = Q (.dsh xs) ε := rfl
theorem gv_exn (x : Xn) : gv i (some (.exn x)) ε Q = Q (.exn x) ε := rfl
theorem gv_st (S : Int → Bool) (n : Nat) : gv i (some (.st S n)) ε Q = Q (.sr i S n) ε := rfl
end
def ga (F : DSp) (o : Option (List SV)) (b : Bool) (ε : Env) (Q : R → Env → Prop) : Prop := match o with
  | some args => F args ε.c fun r c => match b with
    | true => immR r = true ∧ Q r ⟨ε.s, c⟩
    | false => Q r ⟨ε.s, c⟩
  | none => False
theorem dArgs_ (F : DSp) (rs : List R) (ε : Env) (Q : R → Env → Prop) : dArgs F rs ε Q = ga F (argsOf rs) (hasBr rs) ε Q := rfl
theorem ga_f (F : DSp) (args : List SV) (ε : Env) (Q : R → Env → Prop) : ga F (some args) false ε Q = F args ε.c fun r c => Q r ⟨ε.s, c⟩ := rfl
theorem ga_t (F : DSp) (args : List SV) (ε : Env) (Q : R → Env → Prop) : ga F (some args) true ε Q = F args ε.c fun r c => immR r = true ∧ Q r ⟨ε.s, c⟩ := rfl
def gi (r : R) (ε : Env) (Q : List PyData → Bool → Env → Prop) : Prop := match r with
  | .sh (.list ds) => Q ds true ε
  | .sh (.tuple ds) => Q ds true ε
  | .br _ ds => Q ds false ε
  | _ => False
theorem dIter_ (f : DTE) (ε : Env) (Q : List PyData → Bool → Env → Prop) : dIter f ε Q = f ε fun r ε1 => gi r.pub ε1 Q := rfl
theorem gi_l (ds : List PyData) (ε : Env) (Q : List PyData → Bool → Env → Prop) : gi (.sh (.list ds)) ε Q = Q ds true ε := rfl
theorem gi_t (ds : List PyData) (ε : Env) (Q : List PyData → Bool → Env → Prop) : gi (.sh (.tuple ds)) ε Q = Q ds true ε := rfl
theorem gi_b (i : Nat) (ds : List PyData) (ε : Env) (Q : List PyData → Bool → Env → Prop) : gi (.br i ds) ε Q = Q ds false ε := rfl
section
variable (Q : R → Prop)
theorem add_i (i j : Int) : φAdd (.int i) (.int j) Q = Q (.sh (.int (i + j))) := rfl
theorem add_l (a b : List PyData) : φAdd (.list a) (.list b) Q = (a.length + b.length ≤ sizeLine ∧ Q (.nw (a ++ b))) := rfl
theorem add_t (a b : List PyData) : φAdd (.tuple a) (.tuple b) Q = (a.length + b.length ≤ sizeLine ∧ Q (.sh (.tuple (a ++ b)))) := rfl
theorem mul_i (i j : Int) : φMul (.int i) (.int j) Q = (CMulW i j ∧ Q (.sh (.int (i * j)))) := rfl
theorem mul_l (a : List PyData) (k : Int) : φMul (.list a) (.int k) Q = ((-(2 ^ 63) ≤ k ∧ k < 2 ^ 63 ∧ a.length * k.toNat ≤ sizeLine) ∧ Q (.nw (List.replicate k.toNat a).flatten)) := rfl
theorem sl_l (ds : List PyData) (l h : Option Int) : φSl (.list ds) l h Q = Q (.nw (cutD ds l h)) := rfl
theorem sl_t (ds : List PyData) (l h : Option Int) : φSl (.tuple ds) l h Q = Q (.sh (.tuple (cutD ds l h))) := rfl
theorem eq_i (n : Bool) (i j : Int) : φEq n (.int i) (.int j) Q = Q (.sh (.bool (if n then !decide (i = j) else decide (i = j)))) := rfl
theorem eq_s (n : Bool) (i j : Str) : φEq n (.str i) (.str j) Q = Q (.sh (.bool (if n then !decide (i = j) else decide (i = j)))) := rfl
theorem eq_l (n : Bool) (a b : List PyData) : φEq n (.list a) (.list b) Q = ((SeqAt.shaped (.list a) = true ∧ SeqAt.shaped (.list b) = true) ∧ Q (.sh (.bool (if n then !PyData.eqv (.list a) (.list b) else PyData.eqv (.list a) (.list b))))) := rfl
theorem eq_t (n : Bool) (a b : List PyData) : φEq n (.tuple a) (.tuple b) Q = ((SeqAt.shaped (.tuple a) = true ∧ SeqAt.shaped (.tuple b) = true) ∧ Q (.sh (.bool (if n then !PyData.eqv (.tuple a) (.tuple b) else PyData.eqv (.tuple a) (.tuple b))))) := rfl
theorem eq_b (n : Bool) (a b : Bool) : φEq n (.bool a) (.bool b) Q = ((SeqAt.shaped (.bool a) = true ∧ SeqAt.shaped (.bool b) = true) ∧ Q (.sh (.bool (if n then !PyData.eqv (.bool a) (.bool b) else PyData.eqv (.bool a) (.bool b))))) := rfl
theorem eq_n (n : Bool) : φEq n .none .none Q = ((SeqAt.shaped .none = true ∧ SeqAt.shaped .none = true) ∧ Q (.sh (.bool (if n then !PyData.eqv .none .none else PyData.eqv .none .none)))) := rfl
end
end Lp

namespace Lp
open PySem PySem.Spec PyProof.Rows L2
theorem its_l (ds : List PyData) : PyData.its (.list ds) = some ds := rfl
theorem its_t (ds : List PyData) : PyData.its (.tuple ds) = some ds := rfl
theorem isN_n : isN .none = true := rfl
theorem isN_b (b : Bool) : isN (.bool b) = false := rfl
theorem isN_i (z : Int) : isN (.int z) = false := rfl
theorem isN_s (x : Str) : isN (.str x) = false := rfl
theorem isN_l (ds : List PyData) : isN (.list ds) = false := rfl
theorem isN_t (ds : List PyData) : isN (.tuple ds) = false := rfl
theorem rd_sh (d : PyData) : R.dat (.sh d) = some d := rfl
theorem rd_nw (ds : List PyData) : R.dat (.nw ds) = some (.list ds) := rfl
theorem rd_br (i : Nat) (ds : List PyData) : R.dat (.br i ds) = some (.list ds) := rfl
theorem rp_sh (d : PyData) : R.pub (.sh d) = .sh d := rfl
theorem rp_nw (ds : List PyData) : R.pub (.nw ds) = .sh (.list ds) := rfl
theorem rp_br (i : Nat) (ds : List PyData) : R.pub (.br i ds) = .br i ds := rfl
theorem rp_bx : R.pub .bx = .bx := rfl
theorem rp_raw (v : V) : R.pub (.raw v) = .raw v := rfl
theorem rp_sr (i : Nat) (S : Int → Bool) (n : Nat) : R.pub (.sr i S n) = .sr i S n := rfl
theorem rr_sh (d : PyData) : R.ret (.sh d) = some (.sh d) := rfl
theorem rr_nw (ds : List PyData) : R.ret (.nw ds) = some (.nw ds) := rfl
theorem rr_br (i : Nat) (ds : List PyData) : R.ret (.br i ds) = some (.nw ds) := rfl
theorem ra_sh (d : PyData) : R.arg (.sh d) = some (.sh d) := rfl
theorem ra_br (i : Nat) (ds : List PyData) : R.arg (.br i ds) = some (.sh (.list ds)) := rfl
theorem ra_bx : R.arg .bx = some .bx := rfl
theorem ra_raw (v : V) : R.arg (.raw v) = some (.raw v) := rfl
theorem va_sh (o : Bool) (d : PyData) : val o (.sh d) = some (.sh d) := rfl
theorem va_nt (ds : List PyData) : val true (.nw ds) = some (.ow ds) := rfl
theorem va_nf (ds : List PyData) : val false (.nw ds) = some (.sh (.list ds)) := rfl
theorem va_raw (o : Bool) (v : V) : val o (.raw v) = some (.raw v) := rfl
theorem hb_n : hasBr [] = false := rfl
theorem hb_sh (d : PyData) (rs : List R) : hasBr (.sh d :: rs) = hasBr rs := rfl
theorem hb_bx (rs : List R) : hasBr (.bx :: rs) = hasBr rs := rfl
theorem hb_raw (v : V) (rs : List R) : hasBr (.raw v :: rs) = hasBr rs := rfl
theorem hb_br (i : Nat) (ds : List PyData) (rs : List R) : hasBr (.br i ds :: rs) = true := rfl
theorem sh_n : shs [] = some [] := rfl
theorem sh_c (d : PyData) (rs : List R) : shs (.sh d :: rs) = match shs rs with
    | some ds => some (d :: ds)
    | none => none := rfl
theorem tr_n : truD .none = some false := rfl
theorem tr_b (b : Bool) : truD (.bool b) = some b := rfl
theorem tr_i (z : Int) : truD (.int z) = some (z != 0) := rfl
theorem tr_l (ds : List PyData) : truD (.list ds) = some (!ds.isEmpty) := rfl
theorem tr_t (ds : List PyData) : truD (.tuple ds) = some (!ds.isEmpty) := rfl
theorem ty_n : tyD .none = "NoneType" := rfl
theorem ty_b (b : Bool) : tyD (.bool b) = "bool" := rfl
theorem ty_i (z : Int) : tyD (.int z) = "int" := rfl
theorem ty_s (x : Str) : tyD (.str x) = "str" := rfl
theorem ty_l (ds : List PyData) : tyD (.list ds) = "list" := rfl
theorem ty_t (ds : List PyData) : tyD (.tuple ds) = "tuple" := rfl
universe u
theorem if_ff {α : Sort u} (a b : α) : (if false = true then a else b) = b := rfl
theorem if_tt {α : Sort u} (a b : α) : (if true = true then a else b) = a := rfl
theorem sq_ {p q : DTS} {Δ : DEnds} {ε : Env} (h : p { Δ with nx := q Δ } ε) : dSeq p q Δ ε := h
theorem sqa_ {p q : DTS} {Δ : DEnds} {ε : Env} (h : ∀ D : Env → Prop, (∀ ε, q Δ ε → D ε) → p { Δ with nx := D } ε) : dSeq p q Δ ε := h _ fun _ z => z
theorem if_t {b : Bool} {A B : Prop} (h : b = true) (a : A) : if b = true then A else B := by rw [if_pos h]; exact a
theorem if_f {b : Bool} {A B : Prop} (h : b = false) (x : B) : if b = true then A else B := by rw [h]; exact iteF x
theorem it_t {P A B : Prop} [Decidable P] (h : P) (a : A) : if decide P = true then A else B := if_t (decide_eq_true h) a
theorem it_f {P A B : Prop} [Decidable P] (h : ¬ P) (x : B) : if decide P = true then A else B := if_f (decide_eq_false h) x
theorem it_2 {P A B : Prop} [Decidable P] (h : P → A) (k : ¬ P → B) : if decide P = true then A else B := by
  by_cases q : P
  · exact it_t q (h q)
  · exact it_f q (k q)
theorem in_t {P A B : Prop} [Decidable P] (h : ¬ P) (a : A) : if (!decide P) = true then A else B := if_t (by rw [decide_eq_false h]; rfl) a
theorem in_f {P A B : Prop} [Decidable P] (h : P) (x : B) : if (!decide P) = true then A else B := if_f (by rw [decide_eq_true h]; rfl) x
theorem in_2 {P A B : Prop} [Decidable P] (h : ¬ P → A) (k : P → B) : if (!decide P) = true then A else B := by
  by_cases q : P
  · exact in_f q (k q)
  · exact in_t q (h q)
/-- ints as a list or as a tuple -/
def sq (b : Bool) (ns : List Int) : PyData := match b with
  | true => .list (dI ns)
  | false => .tuple (dI ns)
theorem dI_len (ns : List Int) : (dI ns).length = ns.length := List.length_map ..
theorem dI_get {ns : List Int} {i : Nat} {z : Int} (h : ns[i]? = some z) : (dI ns)[i]? = some (.int z) := by rw [List.getElem?_map, h]; rfl
theorem dI_app (a b : List Int) : dI a ++ dI b = dI (a ++ b) := by
  show a.map _ ++ b.map _ = _
  rw [← List.map_append]
theorem dI_snoc (a : List Int) (z : Int) : dI a ++ [.int z] = dI (a ++ [z]) := dI_app a [z]
theorem dI_set (ns : List Int) (i : Nat) (z : Int) : (dI ns).set i (.int z) = dI (ns.set i z) := by
  exact (List.map_set ..).symm
theorem atI_nat {α : Type} {xs : List α} {i : Int} (h0 : 0 ≤ i) (h1 : i < (xs.length : Int)) : atI xs i = xs[i.toNat]? := by
  unfold atI ixN
  rw [if_pos h0, if_pos h1]; rfl
theorem atI_dI {ns : List Int} {i : Int} (h0 : 0 ≤ i) (h1 : i < (ns.length : Int)) : atI (dI ns) i = some (.int (gt ns i)) := by
  rw [atI_nat h0 (by rw [dI_len]; exact h1)]
  exact dI_get (gt_get h0 h1)
theorem atI_last {α : Type} {xs : List α} {v : α} (h : xs.getLast? = some v) : atI xs (-1) = some v := by
  have hn : xs ≠ [] := fun e => by rw [e] at h; cases h
  have hl : 0 < xs.length := List.length_pos_iff.mpr hn
  unfold atI ixN
  rw [if_neg (by decide), if_pos (by omega)]
  show xs[((-1 : Int) + (xs.length : Int)).toNat]? = some v
  rw [show ((-1 : Int) + (xs.length : Int)).toNat = xs.length - 1 by omega, ← List.getLast?_eq_getElem?]; exact h
theorem ixN_ok {n : Nat} {i : Int} (h0 : 0 ≤ i) (h1 : i < (n : Int)) : ixN n i = some i.toNat := by
  unfold ixN; rw [if_pos h0, if_pos h1]
theorem sIx_int (n d : Nat) (k : Int) (h : 0 ≤ k) : HT.sIx n d (some k) = min k.toNat n := by
  have e : k = ((k.toNat : Nat) : Int) := by omega
  rw [e]; rw [HT.sIx_nat]; congr 1
theorem cutD_from (ds : List PyData) (k : Int) (h : 0 ≤ k) : cutD ds (some k) none = ds.drop k.toNat := by
  unfold cutD
  rw [sIx_int _ _ _ h, HT.sIx_none]
  by_cases q : k.toNat ≤ ds.length
  · rw [Nat.min_eq_left q, List.take_of_length_le (by rw [List.length_drop]; exact Nat.le_refl _)]
  · rw [Nat.min_eq_right (by omega), List.drop_length, List.drop_eq_nil_of_le (by omega), List.take_nil]
theorem cutD_to (ds : List PyData) (k : Int) (h : 0 ≤ k) : cutD ds none (some k) = ds.take k.toNat := by
  unfold cutD
  rw [sIx_int _ _ _ h, HT.sIx_none, List.drop_zero, Nat.sub_zero]
  by_cases q : k.toNat ≤ ds.length
  · rw [Nat.min_eq_left q]
  · rw [Nat.min_eq_right (by omega), List.take_of_length_le (Nat.le_refl _), List.take_of_length_le (by omega)]
theorem dI_drop (ns : List Int) (k : Nat) : (dI ns).drop k = dI (ns.drop k) := by rw [← List.map_drop]
theorem dI_take (ns : List Int) (k : Nat) : (dI ns).take k = dI (ns.take k) := by rw [← List.map_take]
theorem flatsD_dI : ∀ ns : List Int, flatsD (dI ns) = some (IL ns)
  | [] => rfl
  | x :: r => by
    show (match flatD (.int x), flatsD (dI r) with | some v, some vs => some (v :: vs) | _, _ => none) = _
    rw [flatsD_dI r]; rfl
/-- x in xs, ints -/
theorem φIn_dI {neg : Bool} {z : Int} {d : PyData} {ns : List Int} {Q : R → Prop} (hd : PyData.its d = some (dI ns)) (q : Q (.sh (.bool (if neg then !decide (z ∈ ns) else decide (z ∈ ns))))) : φIn neg (.int z) d Q := by
  unfold φIn
  rw [hd]
  show (match flatD (.int z), flatsD (dI ns) with | some v, some vs => Q (.sh (.bool (if neg then !inV v vs else inV v vs))) | _, _ => _)
  rw [flatsD_dI]
  show Q (.sh (.bool (if neg then !inV (.int z) (IL ns) else inV (.int z) (IL ns))))
  rw [inV_ints]; exact q
/-- a state: people 0 .. n - 1, at most 1000 -/
structure Stt (ns : List Int) : Prop where
  lo : Low ns.length ns
  le : ns.length ≤ 1000
  ge : 1 ≤ ns.length
def Per (ns : List Int) (p : Int) : Prop := 0 ≤ p ∧ p < (ns.length : Int)
theorem Stt.gt {ns : List Int} (h : Stt ns) {p : Int} (hp : Per ns p) : Per ns (gt ns p) := gt_low h.lo hp.1 hp.2
/-- check_person: state, person -/
def b_check_person : DTS := (dIfS (dNot (dTest (dChain (φB fun i j => decide (i ≤ j)) (φB fun i j => decide (i < j)) (dC (.int 0)) (dVar 1) (dCB φLen (dCons (dVar 0) dNil))))) dNever dNext)
abbrev k_check_person : Nat := 0
def p_check_person : DSp := fun args c Q => ∃ (d : PyData) (ds : List PyData) (p : Int), args = [.sh d, .sh (.int p)] ∧ PyData.its d = some ds ∧ 0 ≤ p ∧ p < (ds.length : Int) ∧ Q (.sh .none) c
theorem mon_check_person : MonF p_check_person := fun args c A B h ⟨d, ds, p, e, h1, h2, h3, q⟩ => ⟨d, ds, p, e, h1, h2, h3, h _ _ q⟩
theorem m_check_person : ∀ args c Q, p_check_person args c Q → defF k_check_person b_check_person args c Q := by
  rintro _ c Q ⟨d, ds, p, rfl, h1, h2, h3, q⟩
  show b_check_person _ ⟨[.sh d, .sh (.int p)], c⟩
  unfold b_check_person
  try dsimp only [dVar_, gv_sh, gv_ow, gv_bx, gv_raw, gv_st, dC, dRaw, dOp, dUn, dTest, dTruth, dAnd, dOr, dNot, dYes, dIf, dAndV, dOrV, dNotV, dNotT, dChain, dNil, dCons, dTup, dLst, dats, dCB, dNoP, dPart, dSl, dNext, dBreak, dCont, dNever, dDrop, dRet, dRetN, dIfS, dSetG, dPar, dPar3, dAppend, dAppPop, dSetIx, dExt, dAug, dSet0, dSAdd, dSNotIn, dIter_, gi_l, gi_t, gi_b, dRng1, dRng2, dName, dGNil, dGCons, dGTup, dAsg, dFor, dWhile, dCall, dCallR, dArgs_, ga_f, ga_t, argsOf, dLc, wipeE, dListRg, dIndex, dSortSet, dSortSc, dEnum, dEnA, dZip, dIsi, dIsi2, isaT, φI, φB, φC, φNeg, add_i, add_l, add_t, mul_i, mul_l, φIx, sl_l, sl_t, eq_i, eq_s, eq_l, eq_t, eq_b, eq_n, φIsN, isN_n, isN_b, isN_i, isN_s, isN_l, isN_t, φLen, φList, φTuple, φAbs, φInt, φMax, φIsB, φIsNB, its_l, its_t, rd_sh, rd_nw, rd_br, rp_sh, rp_nw, rp_br, rp_bx, rp_raw, rp_sr, rr_sh, rr_nw, rr_br, ra_sh, ra_br, ra_bx, ra_raw, va_sh, va_nt, va_nf, va_raw, hb_n, hb_sh, hb_bx, hb_raw, hb_br, sh_n, sh_c, tr_n, tr_b, tr_i, tr_l, tr_t, ty_n, ty_b, ty_i, ty_s, ty_l, ty_t, if_ff, if_tt, Env.set, List.getElem?_cons_succ, List.getElem?_cons_zero, List.set_cons_succ, List.set_cons_zero, List.reverse_cons, List.reverse_nil, List.nil_append, List.cons_append, Option.bind_some, ite_true, ite_false]
  rw [h1]
  exact it_t h2 (in_f h3 q)
def ofO : Option Int → PyData
  | none => .none
  | some z => .int z
def dO (os : List (Option Int)) : List PyData := os.map ofO
def gO (os : List (Option Int)) (p : Int) : Option Int := os.getD p.toNat none
def routeOG (os : List (Option Int)) : Nat → List Int → Option Int → List Int
  | 0, acc, _ => acc
  | _ + 1, acc, none => acc
  | k + 1, acc, some z => if z ∈ acc then acc else routeOG os k (acc ++ [z]) (gO os z)
def routeO (os : List (Option Int)) (p : Int) : List Int := routeOG os (os.length + 1) [] (some p)
def LowO (n : Nat) (os : List (Option Int)) : Prop := ∀ z, some z ∈ os → 0 ≤ z ∧ z < (n : Int)
theorem dO_len (os : List (Option Int)) : (dO os).length = os.length := List.length_map ..
theorem gO_at {os : List (Option Int)} {p : Int} (h0 : 0 ≤ p) (h1 : p < (os.length : Int)) : atI (dO os) p = some (ofO (gO os p)) := by
  rw [atI_nat h0 (by rw [dO_len]; exact h1)]
  unfold dO gO
  rw [List.getElem?_map, List.getD_eq_getElem?_getD, List.getElem?_eq_getElem (by omega)]; rfl
theorem gO_low {n : Nat} {os : List (Option Int)} (lo : LowO n os) {p z : Int} (h1 : p < (os.length : Int)) (h0 : 0 ≤ p) (e : gO os p = some z) : 0 ≤ z ∧ z < (n : Int) := by
  refine lo z ?_
  unfold gO at e
  rw [List.getD_eq_getElem?_getD, List.getElem?_eq_getElem (show p.toNat < os.length by omega)] at e
  rw [← show _ = some z from e]; exact List.getElem_mem _
theorem dO_ints (ns : List Int) : dO (ns.map some) = dI ns := by
  unfold dO
  show _ = ns.map _
  rw [List.map_map]; rfl
theorem LowO.of {n : Nat} {ns : List Int} (lo : Low n ns) : LowO n (ns.map some) := fun z hz => by
  obtain ⟨y, hy, e⟩ := List.mem_map.mp hz
  cases e
  exact lo z hy
theorem gO_some {ns : List Int} {p : Int} (h0 : 0 ≤ p) (h1 : p < (ns.length : Int)) : gO (ns.map some) p = some (gt ns p) := by
  unfold gO gt
  rw [List.getD_eq_getElem?_getD, List.getD_eq_getElem?_getD, List.getElem?_map, List.getElem?_eq_getElem (show p.toNat < ns.length by omega)]; rfl
theorem routeOG_some {ns : List Int} (lo : Low ns.length ns) : ∀ (k : Nat) (acc : List Int) (p : Int), 0 ≤ p → p < (ns.length : Int) → routeOG (ns.map some) k acc (some p) = routeG ns k acc p
  | 0, _, _, _, _ => rfl
  | k + 1, acc, p, h0, h1 => by
    unfold routeOG routeG
    rw [gO_some h0 h1]
    have := gt_low lo h0 h1
    rw [routeOG_some lo k _ _ this.1 this.2]
theorem routeO_some {ns : List Int} (lo : Low ns.length ns) {p : Int} (h0 : 0 ≤ p) (h1 : p < (ns.length : Int)) : routeO (ns.map some) p = routeF ns p := by
  unfold routeO routeF
  rw [List.length_map]
  exact routeOG_some lo _ _ _ h0 h1
/-- route_from: pointers, person, route, seen, at -/
def b_route_from : DTS := (dSeq (dSetG true 2 (dLst dNil))
  (dSeq (dSet0 3)
  (dSeq (dSetG false 4 (dVar 1))
  (dSeq (dWhile (dAnd (dTest (dOp (φIsN true) (dVar 4) (dC .none))) (dTest (dSNotIn (dVar 4) (dVar 3)))) (dSeq (dSAdd 3 (dVar 4))
  (dSeq (dAppend 2 (dVar 4))
  (dSetG false 4 (dOp φIx (dVar 0) (dVar 4))))))
  (dRet (dVar 2))))))
abbrev k_route_from : Nat := 3
def p_route_from : DSp := fun args c Q => ∃ (d : PyData) (os : List (Option Int)) (p : Int), args = [.sh d, .sh (.int p)] ∧ PyData.its d = some (dO os) ∧ LowO os.length os ∧ os.length ≤ 1000 ∧ 0 ≤ p ∧ p < (os.length : Int) ∧ Q (.nw (dI (routeO os p))) c
theorem mon_route_from : MonF p_route_from := fun args c A B h ⟨d, os, p, e, h1, h2, h3, h4, h5, q⟩ => ⟨d, os, p, e, h1, h2, h3, h4, h5, h _ _ q⟩
theorem route_loop {d : PyData} {os : List (Option Int)} (hd : PyData.its d = some (dO os)) (lo : LowO os.length os) (le : os.length ≤ 1000) {x : SV} {c : Nat} {Δ : DEnds} :
    ∀ (k : Nat) (acc : List Int) (at_ : Option Int), acc.Nodup → Low os.length acc → (∀ z, at_ = some z → 0 ≤ z ∧ z < (os.length : Int)) → os.length < k + acc.length →
      (∀ S n y, Δ.nx ⟨[.sh d, x, .ow (dI (routeOG os k acc at_)), .st S n, y], c⟩) →
      whileN (dAnd (dTest (dOp (φIsN true) (dVar 4) (dC .none))) (dTest (dSNotIn (dVar 4) (dVar 3)))) (dSeq (dSAdd 3 (dVar 4)) (dSeq (dAppend 2 (dVar 4)) (dSetG false 4 (dOp φIx (dVar 0) (dVar 4))))) Δ (k + 1) ⟨[.sh d, x, .ow (dI acc), .st (fun j => decide (j ∈ acc)) acc.length, .sh (ofO at_)], c⟩
  | 0, acc, at_, nd, la, _, hk, _ => by
    have := low_len os.length acc nd la
    omega
  | k + 1, acc, none, nd, la, _, hk, q => by
    unfold whileN
    dsimp only [ofO]
    try dsimp only [dVar_, gv_sh, gv_ow, gv_bx, gv_raw, gv_st, dC, dRaw, dOp, dUn, dTest, dTruth, dAnd, dOr, dNot, dYes, dIf, dAndV, dOrV, dNotV, dNotT, dChain, dNil, dCons, dTup, dLst, dats, dCB, dNoP, dPart, dSl, dNext, dBreak, dCont, dNever, dDrop, dRet, dRetN, dIfS, dSetG, dPar, dPar3, dAppend, dAppPop, dSetIx, dExt, dAug, dSet0, dSAdd, dSNotIn, dIter_, gi_l, gi_t, gi_b, dRng1, dRng2, dName, dGNil, dGCons, dGTup, dAsg, dFor, dWhile, dCall, dCallR, dArgs_, ga_f, ga_t, argsOf, dLc, wipeE, dListRg, dIndex, dSortSet, dSortSc, dEnum, dEnA, dZip, dIsi, dIsi2, isaT, φI, φB, φC, φNeg, add_i, add_l, add_t, mul_i, mul_l, φIx, sl_l, sl_t, eq_i, eq_s, eq_l, eq_t, eq_b, eq_n, φIsN, isN_n, isN_b, isN_i, isN_s, isN_l, isN_t, φLen, φList, φTuple, φAbs, φInt, φMax, φIsB, φIsNB, its_l, its_t, rd_sh, rd_nw, rd_br, rp_sh, rp_nw, rp_br, rp_bx, rp_raw, rp_sr, rr_sh, rr_nw, rr_br, ra_sh, ra_br, ra_bx, ra_raw, va_sh, va_nt, va_nf, va_raw, hb_n, hb_sh, hb_bx, hb_raw, hb_br, sh_n, sh_c, tr_n, tr_b, tr_i, tr_l, tr_t, ty_n, ty_b, ty_i, ty_s, ty_l, ty_t, if_ff, if_tt, Env.set, List.getElem?_cons_succ, List.getElem?_cons_zero, List.set_cons_succ, List.set_cons_zero, List.reverse_cons, List.reverse_nil, List.nil_append, List.cons_append, Option.bind_some, ite_true, ite_false]
    exact q _ _ _
  | k + 1, acc, some z, nd, la, hz, hk, q => by
    unfold whileN
    dsimp only [ofO]
    try dsimp only [dVar_, gv_sh, gv_ow, gv_bx, gv_raw, gv_st, dC, dRaw, dOp, dUn, dTest, dTruth, dAnd, dOr, dNot, dYes, dIf, dAndV, dOrV, dNotV, dNotT, dChain, dNil, dCons, dTup, dLst, dats, dCB, dNoP, dPart, dSl, dNext, dBreak, dCont, dNever, dDrop, dRet, dRetN, dIfS, dSetG, dPar, dPar3, dAppend, dAppPop, dSetIx, dExt, dAug, dSet0, dSAdd, dSNotIn, dIter_, gi_l, gi_t, gi_b, dRng1, dRng2, dName, dGNil, dGCons, dGTup, dAsg, dFor, dWhile, dCall, dCallR, dArgs_, ga_f, ga_t, argsOf, dLc, wipeE, dListRg, dIndex, dSortSet, dSortSc, dEnum, dEnA, dZip, dIsi, dIsi2, isaT, φI, φB, φC, φNeg, add_i, add_l, add_t, mul_i, mul_l, φIx, sl_l, sl_t, eq_i, eq_s, eq_l, eq_t, eq_b, eq_n, φIsN, isN_n, isN_b, isN_i, isN_s, isN_l, isN_t, φLen, φList, φTuple, φAbs, φInt, φMax, φIsB, φIsNB, its_l, its_t, rd_sh, rd_nw, rd_br, rp_sh, rp_nw, rp_br, rp_bx, rp_raw, rp_sr, rr_sh, rr_nw, rr_br, ra_sh, ra_br, ra_bx, ra_raw, va_sh, va_nt, va_nf, va_raw, hb_n, hb_sh, hb_bx, hb_raw, hb_br, sh_n, sh_c, tr_n, tr_b, tr_i, tr_l, tr_t, ty_n, ty_b, ty_i, ty_s, ty_l, ty_t, if_ff, if_tt, Env.set, List.getElem?_cons_succ, List.getElem?_cons_zero, List.set_cons_succ, List.set_cons_zero, List.reverse_cons, List.reverse_nil, List.nil_append, List.cons_append, Option.bind_some, ite_true, ite_false]
    unfold routeOG at q
    obtain ⟨z0, z1⟩ := hz z rfl
    have hl := low_len os.length acc nd la
    by_cases hm : z ∈ acc
    · rw [if_pos hm] at q
      refine in_f hm ?_
      exact q _ _ _
    · rw [if_neg hm] at q
      refine in_t hm ?_
      refine sq_ ?_
      try dsimp only [dVar_, gv_sh, gv_ow, gv_bx, gv_raw, gv_st, dC, dRaw, dOp, dUn, dTest, dTruth, dAnd, dOr, dNot, dYes, dIf, dAndV, dOrV, dNotV, dNotT, dChain, dNil, dCons, dTup, dLst, dats, dCB, dNoP, dPart, dSl, dNext, dBreak, dCont, dNever, dDrop, dRet, dRetN, dIfS, dSetG, dPar, dPar3, dAppend, dAppPop, dSetIx, dExt, dAug, dSet0, dSAdd, dSNotIn, dIter_, gi_l, gi_t, gi_b, dRng1, dRng2, dName, dGNil, dGCons, dGTup, dAsg, dFor, dWhile, dCall, dCallR, dArgs_, ga_f, ga_t, argsOf, dLc, wipeE, dListRg, dIndex, dSortSet, dSortSc, dEnum, dEnA, dZip, dIsi, dIsi2, isaT, φI, φB, φC, φNeg, add_i, add_l, add_t, mul_i, mul_l, φIx, sl_l, sl_t, eq_i, eq_s, eq_l, eq_t, eq_b, eq_n, φIsN, isN_n, isN_b, isN_i, isN_s, isN_l, isN_t, φLen, φList, φTuple, φAbs, φInt, φMax, φIsB, φIsNB, its_l, its_t, rd_sh, rd_nw, rd_br, rp_sh, rp_nw, rp_br, rp_bx, rp_raw, rp_sr, rr_sh, rr_nw, rr_br, ra_sh, ra_br, ra_bx, ra_raw, va_sh, va_nt, va_nf, va_raw, hb_n, hb_sh, hb_bx, hb_raw, hb_br, sh_n, sh_c, tr_n, tr_b, tr_i, tr_l, tr_t, ty_n, ty_b, ty_i, ty_s, ty_l, ty_t, if_ff, if_tt, Env.set, List.getElem?_cons_succ, List.getElem?_cons_zero, List.set_cons_succ, List.set_cons_zero, List.reverse_cons, List.reverse_nil, List.nil_append, List.cons_append, Option.bind_some, ite_true, ite_false]
      refine ⟨show acc.length + 1 < 4096 by omega, ?_⟩
      refine sq_ ?_
      try dsimp only [dVar_, gv_sh, gv_ow, gv_bx, gv_raw, gv_st, dC, dRaw, dOp, dUn, dTest, dTruth, dAnd, dOr, dNot, dYes, dIf, dAndV, dOrV, dNotV, dNotT, dChain, dNil, dCons, dTup, dLst, dats, dCB, dNoP, dPart, dSl, dNext, dBreak, dCont, dNever, dDrop, dRet, dRetN, dIfS, dSetG, dPar, dPar3, dAppend, dAppPop, dSetIx, dExt, dAug, dSet0, dSAdd, dSNotIn, dIter_, gi_l, gi_t, gi_b, dRng1, dRng2, dName, dGNil, dGCons, dGTup, dAsg, dFor, dWhile, dCall, dCallR, dArgs_, ga_f, ga_t, argsOf, dLc, wipeE, dListRg, dIndex, dSortSet, dSortSc, dEnum, dEnA, dZip, dIsi, dIsi2, isaT, φI, φB, φC, φNeg, add_i, add_l, add_t, mul_i, mul_l, φIx, sl_l, sl_t, eq_i, eq_s, eq_l, eq_t, eq_b, eq_n, φIsN, isN_n, isN_b, isN_i, isN_s, isN_l, isN_t, φLen, φList, φTuple, φAbs, φInt, φMax, φIsB, φIsNB, its_l, its_t, rd_sh, rd_nw, rd_br, rp_sh, rp_nw, rp_br, rp_bx, rp_raw, rp_sr, rr_sh, rr_nw, rr_br, ra_sh, ra_br, ra_bx, ra_raw, va_sh, va_nt, va_nf, va_raw, hb_n, hb_sh, hb_bx, hb_raw, hb_br, sh_n, sh_c, tr_n, tr_b, tr_i, tr_l, tr_t, ty_n, ty_b, ty_i, ty_s, ty_l, ty_t, if_ff, if_tt, Env.set, List.getElem?_cons_succ, List.getElem?_cons_zero, List.set_cons_succ, List.set_cons_zero, List.reverse_cons, List.reverse_nil, List.nil_append, List.cons_append, Option.bind_some, ite_true, ite_false]
      refine ⟨show (dI acc).length < 16777216 by rw [dI_len]; omega, ?_⟩
      rw [hd]
      refine ⟨_, gO_at z0 z1, ?_⟩
      rw [dI_snoc, show (fun j => decide (j ∈ acc) || decide (j = z)) = fun j => decide (j ∈ acc ++ [z]) by funext j; simp]
      have e : (if decide (z ∈ acc) = true then acc.length else acc.length + 1) = (acc ++ [z]).length := by rw [if_neg (by simp [hm]), List.length_append]; rfl
      rw [e]
      refine route_loop hd lo le k (acc ++ [z]) (gO os z) (Nodup.snoc nd hm) ?_ ?_ (by rw [List.length_append]; show os.length < k + (acc.length + 1); omega) q
      · intro y hy
        rcases List.mem_append.mp hy with h | h
        · exact la y h
        · rw [List.mem_singleton.mp h]; exact ⟨z0, z1⟩
      · intro y hy
        exact gO_low lo z1 z0 hy
theorem m_route_from : ∀ args c Q, p_route_from args c Q → defF k_route_from b_route_from args c Q := by
  rintro _ c Q ⟨d, os, p, rfl, h1, h2, h3, h4, h5, q⟩
  show b_route_from _ ⟨[.sh d, .sh (.int p), .un, .un, .un], c⟩
  unfold b_route_from
  refine sq_ ?_
  try dsimp only [dVar_, gv_sh, gv_ow, gv_bx, gv_raw, gv_st, dC, dRaw, dOp, dUn, dTest, dTruth, dAnd, dOr, dNot, dYes, dIf, dAndV, dOrV, dNotV, dNotT, dChain, dNil, dCons, dTup, dLst, dats, dCB, dNoP, dPart, dSl, dNext, dBreak, dCont, dNever, dDrop, dRet, dRetN, dIfS, dSetG, dPar, dPar3, dAppend, dAppPop, dSetIx, dExt, dAug, dSet0, dSAdd, dSNotIn, dIter_, gi_l, gi_t, gi_b, dRng1, dRng2, dName, dGNil, dGCons, dGTup, dAsg, dFor, dWhile, dCall, dCallR, dArgs_, ga_f, ga_t, argsOf, dLc, wipeE, dListRg, dIndex, dSortSet, dSortSc, dEnum, dEnA, dZip, dIsi, dIsi2, isaT, φI, φB, φC, φNeg, add_i, add_l, add_t, mul_i, mul_l, φIx, sl_l, sl_t, eq_i, eq_s, eq_l, eq_t, eq_b, eq_n, φIsN, isN_n, isN_b, isN_i, isN_s, isN_l, isN_t, φLen, φList, φTuple, φAbs, φInt, φMax, φIsB, φIsNB, its_l, its_t, rd_sh, rd_nw, rd_br, rp_sh, rp_nw, rp_br, rp_bx, rp_raw, rp_sr, rr_sh, rr_nw, rr_br, ra_sh, ra_br, ra_bx, ra_raw, va_sh, va_nt, va_nf, va_raw, hb_n, hb_sh, hb_bx, hb_raw, hb_br, sh_n, sh_c, tr_n, tr_b, tr_i, tr_l, tr_t, ty_n, ty_b, ty_i, ty_s, ty_l, ty_t, if_ff, if_tt, Env.set, List.getElem?_cons_succ, List.getElem?_cons_zero, List.set_cons_succ, List.set_cons_zero, List.reverse_cons, List.reverse_nil, List.nil_append, List.cons_append, Option.bind_some, ite_true, ite_false]
  refine sq_ ?_
  try dsimp only [dVar_, gv_sh, gv_ow, gv_bx, gv_raw, gv_st, dC, dRaw, dOp, dUn, dTest, dTruth, dAnd, dOr, dNot, dYes, dIf, dAndV, dOrV, dNotV, dNotT, dChain, dNil, dCons, dTup, dLst, dats, dCB, dNoP, dPart, dSl, dNext, dBreak, dCont, dNever, dDrop, dRet, dRetN, dIfS, dSetG, dPar, dPar3, dAppend, dAppPop, dSetIx, dExt, dAug, dSet0, dSAdd, dSNotIn, dIter_, gi_l, gi_t, gi_b, dRng1, dRng2, dName, dGNil, dGCons, dGTup, dAsg, dFor, dWhile, dCall, dCallR, dArgs_, ga_f, ga_t, argsOf, dLc, wipeE, dListRg, dIndex, dSortSet, dSortSc, dEnum, dEnA, dZip, dIsi, dIsi2, isaT, φI, φB, φC, φNeg, add_i, add_l, add_t, mul_i, mul_l, φIx, sl_l, sl_t, eq_i, eq_s, eq_l, eq_t, eq_b, eq_n, φIsN, isN_n, isN_b, isN_i, isN_s, isN_l, isN_t, φLen, φList, φTuple, φAbs, φInt, φMax, φIsB, φIsNB, its_l, its_t, rd_sh, rd_nw, rd_br, rp_sh, rp_nw, rp_br, rp_bx, rp_raw, rp_sr, rr_sh, rr_nw, rr_br, ra_sh, ra_br, ra_bx, ra_raw, va_sh, va_nt, va_nf, va_raw, hb_n, hb_sh, hb_bx, hb_raw, hb_br, sh_n, sh_c, tr_n, tr_b, tr_i, tr_l, tr_t, ty_n, ty_b, ty_i, ty_s, ty_l, ty_t, if_ff, if_tt, Env.set, List.getElem?_cons_succ, List.getElem?_cons_zero, List.set_cons_succ, List.set_cons_zero, List.reverse_cons, List.reverse_nil, List.nil_append, List.cons_append, Option.bind_some, ite_true, ite_false]
  refine sq_ ?_
  try dsimp only [dVar_, gv_sh, gv_ow, gv_bx, gv_raw, gv_st, dC, dRaw, dOp, dUn, dTest, dTruth, dAnd, dOr, dNot, dYes, dIf, dAndV, dOrV, dNotV, dNotT, dChain, dNil, dCons, dTup, dLst, dats, dCB, dNoP, dPart, dSl, dNext, dBreak, dCont, dNever, dDrop, dRet, dRetN, dIfS, dSetG, dPar, dPar3, dAppend, dAppPop, dSetIx, dExt, dAug, dSet0, dSAdd, dSNotIn, dIter_, gi_l, gi_t, gi_b, dRng1, dRng2, dName, dGNil, dGCons, dGTup, dAsg, dFor, dWhile, dCall, dCallR, dArgs_, ga_f, ga_t, argsOf, dLc, wipeE, dListRg, dIndex, dSortSet, dSortSc, dEnum, dEnA, dZip, dIsi, dIsi2, isaT, φI, φB, φC, φNeg, add_i, add_l, add_t, mul_i, mul_l, φIx, sl_l, sl_t, eq_i, eq_s, eq_l, eq_t, eq_b, eq_n, φIsN, isN_n, isN_b, isN_i, isN_s, isN_l, isN_t, φLen, φList, φTuple, φAbs, φInt, φMax, φIsB, φIsNB, its_l, its_t, rd_sh, rd_nw, rd_br, rp_sh, rp_nw, rp_br, rp_bx, rp_raw, rp_sr, rr_sh, rr_nw, rr_br, ra_sh, ra_br, ra_bx, ra_raw, va_sh, va_nt, va_nf, va_raw, hb_n, hb_sh, hb_bx, hb_raw, hb_br, sh_n, sh_c, tr_n, tr_b, tr_i, tr_l, tr_t, ty_n, ty_b, ty_i, ty_s, ty_l, ty_t, if_ff, if_tt, Env.set, List.getElem?_cons_succ, List.getElem?_cons_zero, List.set_cons_succ, List.set_cons_zero, List.reverse_cons, List.reverse_nil, List.nil_append, List.cons_append, Option.bind_some, ite_true, ite_false]
  refine sq_ ?_
  try dsimp only [dVar_, gv_sh, gv_ow, gv_bx, gv_raw, gv_st, dC, dRaw, dOp, dUn, dTest, dTruth, dAnd, dOr, dNot, dYes, dIf, dAndV, dOrV, dNotV, dNotT, dChain, dNil, dCons, dTup, dLst, dats, dCB, dNoP, dPart, dSl, dNext, dBreak, dCont, dNever, dDrop, dRet, dRetN, dIfS, dSetG, dPar, dPar3, dAppend, dAppPop, dSetIx, dExt, dAug, dSet0, dSAdd, dSNotIn, dIter_, gi_l, gi_t, gi_b, dRng1, dRng2, dName, dGNil, dGCons, dGTup, dAsg, dFor, dWhile, dCall, dCallR, dArgs_, ga_f, ga_t, argsOf, dLc, wipeE, dListRg, dIndex, dSortSet, dSortSc, dEnum, dEnA, dZip, dIsi, dIsi2, isaT, φI, φB, φC, φNeg, add_i, add_l, add_t, mul_i, mul_l, φIx, sl_l, sl_t, eq_i, eq_s, eq_l, eq_t, eq_b, eq_n, φIsN, isN_n, isN_b, isN_i, isN_s, isN_l, isN_t, φLen, φList, φTuple, φAbs, φInt, φMax, φIsB, φIsNB, its_l, its_t, rd_sh, rd_nw, rd_br, rp_sh, rp_nw, rp_br, rp_bx, rp_raw, rp_sr, rr_sh, rr_nw, rr_br, ra_sh, ra_br, ra_bx, ra_raw, va_sh, va_nt, va_nf, va_raw, hb_n, hb_sh, hb_bx, hb_raw, hb_br, sh_n, sh_c, tr_n, tr_b, tr_i, tr_l, tr_t, ty_n, ty_b, ty_i, ty_s, ty_l, ty_t, if_ff, if_tt, Env.set, List.getElem?_cons_succ, List.getElem?_cons_zero, List.set_cons_succ, List.set_cons_zero, List.reverse_cons, List.reverse_nil, List.nil_append, List.cons_append, Option.bind_some, ite_true, ite_false]
  refine ⟨os.length + 1 + 1, route_loop h1 h2 h3 (os.length + 1) [] (some p) List.nodup_nil (fun _ h => nomatch h) (fun z h => by cases h; exact ⟨h4, h5⟩) (by show os.length < os.length + 1 + 0; omega) ?_⟩
  intro S n y
  try dsimp only [dVar_, gv_sh, gv_ow, gv_bx, gv_raw, gv_st, dC, dRaw, dOp, dUn, dTest, dTruth, dAnd, dOr, dNot, dYes, dIf, dAndV, dOrV, dNotV, dNotT, dChain, dNil, dCons, dTup, dLst, dats, dCB, dNoP, dPart, dSl, dNext, dBreak, dCont, dNever, dDrop, dRet, dRetN, dIfS, dSetG, dPar, dPar3, dAppend, dAppPop, dSetIx, dExt, dAug, dSet0, dSAdd, dSNotIn, dIter_, gi_l, gi_t, gi_b, dRng1, dRng2, dName, dGNil, dGCons, dGTup, dAsg, dFor, dWhile, dCall, dCallR, dArgs_, ga_f, ga_t, argsOf, dLc, wipeE, dListRg, dIndex, dSortSet, dSortSc, dEnum, dEnA, dZip, dIsi, dIsi2, isaT, φI, φB, φC, φNeg, add_i, add_l, add_t, mul_i, mul_l, φIx, sl_l, sl_t, eq_i, eq_s, eq_l, eq_t, eq_b, eq_n, φIsN, isN_n, isN_b, isN_i, isN_s, isN_l, isN_t, φLen, φList, φTuple, φAbs, φInt, φMax, φIsB, φIsNB, its_l, its_t, rd_sh, rd_nw, rd_br, rp_sh, rp_nw, rp_br, rp_bx, rp_raw, rp_sr, rr_sh, rr_nw, rr_br, ra_sh, ra_br, ra_bx, ra_raw, va_sh, va_nt, va_nf, va_raw, hb_n, hb_sh, hb_bx, hb_raw, hb_br, sh_n, sh_c, tr_n, tr_b, tr_i, tr_l, tr_t, ty_n, ty_b, ty_i, ty_s, ty_l, ty_t, if_ff, if_tt, Env.set, List.getElem?_cons_succ, List.getElem?_cons_zero, List.set_cons_succ, List.set_cons_zero, List.reverse_cons, List.reverse_nil, List.nil_append, List.cons_append, Option.bind_some, ite_true, ite_false]
  exact q
theorem its_cases {d : PyData} {ds : List PyData} (h : PyData.its d = some ds) : d = .list ds ∨ d = .tuple ds := by
  cases d <;> first | (cases h; exact .inl rfl) | (cases h; exact .inr rfl) | cases h
theorem for_cons {γ : DTG} {p : DTS} {Δ : DEnds} {d : PyData} {ds : List PyData} {ε : Env} (h : γ d ε fun ε1 => p { nx := forD γ p Δ ds, rt := Δ.rt, bk := Δ.nx, ct := forD γ p Δ ds } ε1) : forD γ p Δ (d :: ds) ε := h
theorem for_nil {γ : DTG} {p : DTS} {Δ : DEnds} {ε : Env} (h : Δ.nx ε) : forD γ p Δ [] ε := h
theorem lc_cons {γ : DTG} {c : DTT} {f : DTE} {vs : List Nat} {s : List SV} {Q : R → Env → Prop} {d : PyData} {ds acc : List PyData} {n : Nat} (h : γ d ⟨wipeE ⟨s, n⟩ vs, n⟩ fun ε1 => c ε1 fun b ε2 => if b = true then f ε2 fun r ε3 => match r.pub with
      | .sh e => acc.length < sizeLine ∧ lcD γ c f vs s Q ds (acc ++ [e]) ε3.c
      | _ => False
    else lcD γ c f vs s Q ds acc ε2.c) : lcD γ c f vs s Q (d :: ds) acc n := h
theorem lc_all {α : Type} {γ : DTG} {f : DTE} {vs : List Nat} {s : List SV} {Q : R → Env → Prop} {n : Nat} (h e : α → PyData) : ∀ (xs : List α) (acc : List PyData),
    (∀ x ∈ xs, ∀ K : R → Env → Prop, (∀ r ε, r.pub = .sh (e x) → ε.c = n → K r ε) → γ (h x) ⟨wipeE ⟨s, n⟩ vs, n⟩ fun ε1 => f ε1 K) →
    acc.length + xs.length ≤ 16777216 → Q (.nw (acc ++ xs.map e)) ⟨s, n⟩ → lcD γ dYes f vs s Q (xs.map h) acc n
  | [], acc, _, _, q => by
    rw [List.map_nil, List.append_nil] at q
    exact q
  | x :: xs, acc, st, le, q => by
    rw [List.length_cons] at le
    rw [List.map_cons]
    refine lc_cons ?_
    refine st x List.mem_cons_self (fun r ε3 => match r.pub with
      | .sh e => acc.length < sizeLine ∧ lcD γ dYes f vs s Q (xs.map h) (acc ++ [e]) ε3.c
      | _ => False) fun r ε hr hc => ?_
    rw [hr, hc]
    refine ⟨show acc.length < 16777216 by omega, ?_⟩
    refine lc_all h e xs (acc ++ [e x]) (fun y hy => st y (List.mem_cons_of_mem _ hy)) (by rw [List.length_append, List.length_singleton]; omega) ?_
    rw [List.append_assoc]; exact q
theorem lc_if {α : Type} {γ : DTG} {c : DTT} {f : DTE} {vs : List Nat} {s : List SV} {Q : R → Env → Prop} {n : Nat} (h e : α → PyData) (k : α → Bool) : ∀ (xs : List α) (acc : List PyData),
    (∀ x ∈ xs, ∀ (Y : R → Env → Prop) (N : Env → Prop), (k x = true → ∀ r ε, r.pub = .sh (e x) → ε.c = n → Y r ε) → (k x = false → ∀ ε, ε.c = n → N ε) → γ (h x) ⟨wipeE ⟨s, n⟩ vs, n⟩ fun ε1 => c ε1 fun b ε2 => if b = true then f ε2 Y else N ε2) →
    acc.length + xs.length ≤ 16777216 → Q (.nw (acc ++ (xs.filter k).map e)) ⟨s, n⟩ → lcD γ c f vs s Q (xs.map h) acc n
  | [], acc, _, _, q => by
    rw [List.filter_nil, List.map_nil, List.append_nil] at q
    exact q
  | x :: xs, acc, st, le, q => by
    rw [List.length_cons] at le
    rw [List.map_cons]
    refine lc_cons ?_
    refine st x List.mem_cons_self (fun r ε3 => match r.pub with
      | .sh e => acc.length < sizeLine ∧ lcD γ c f vs s Q (xs.map h) (acc ++ [e]) ε3.c
      | _ => False) (fun ε => lcD γ c f vs s Q (xs.map h) acc ε.c) (fun hk r ε hr hc => ?_) fun hk ε hc => ?_
    · rw [hr, hc]
      refine ⟨show acc.length < 16777216 by omega, ?_⟩
      refine lc_if h e k xs (acc ++ [e x]) (fun y hy => st y (List.mem_cons_of_mem _ hy)) (by rw [List.length_append, List.length_singleton]; omega) ?_
      rw [List.filter_cons_of_pos hk, List.map_cons] at q
      rw [List.append_assoc]; exact q
    · rw [hc]
      refine lc_if h e k xs acc (fun y hy => st y (List.mem_cons_of_mem _ hy)) (by omega) ?_
      rw [List.filter_cons_of_neg (by rw [hk]; exact fun z => nomatch z)] at q
      exact q
def rq (b : Bool) (ns : List Int) : R := match b with
  | true => .nw (dI ns)
  | false => .sh (.tuple (dI ns))
def turnTo (ms : List Int) (z : Int) : List Int := ms.drop (ms.idxOf z) ++ ms.take (ms.idxOf z)
theorem turnTo_len (ms : List Int) (z : Int) : (turnTo ms z).length = ms.length := by
  unfold turnTo
  rw [List.length_append, List.length_drop, List.length_take]; omega
/-- turned: members, first, at -/
def b_turned : DTS := (dSeq (dSetG false 2 (dIndex (dVar 0) (dVar 1)))
  (dRet (dOp φAdd (dSl φSl (dVar 0) (dPart (dVar 2)) dNoP) (dSl φSl (dVar 0) dNoP (dPart (dVar 2))))))
abbrev k_turned : Nat := 1
def p_turned : DSp := fun args c Q => ∃ (b : Bool) (ms : List Int) (z : Int), args = [.sh (sq b ms), .sh (.int z)] ∧ z ∈ ms ∧ ms.length ≤ 1000000 ∧ Q (rq b (turnTo ms z)) c
theorem mon_turned : MonF p_turned := fun args c A B h ⟨d, os, p, e, h1, h2, q⟩ => ⟨d, os, p, e, h1, h2, h _ _ q⟩
theorem m_turned : ∀ args c Q, p_turned args c Q → defF k_turned b_turned args c Q := by
  rintro _ c Q ⟨b, ms, z, rfl, h1, h2, q⟩
  have hl : ((dI ms).drop (ms.idxOf z)).length + ((dI ms).take (ms.idxOf z)).length ≤ 16777216 := by
    rw [List.length_drop, List.length_take, dI_len]; omega
  have e : (dI ms).drop (ms.idxOf z) ++ (dI ms).take (ms.idxOf z) = dI (turnTo ms z) := by rw [dI_drop, dI_take, dI_app]; rfl
  cases b with
  | true =>
    show b_turned _ ⟨[.sh (.list (dI ms)), .sh (.int z), .un], c⟩
    refine sq_ ?_
    try dsimp only [dVar_, gv_sh, gv_ow, gv_bx, gv_raw, gv_st, dC, dRaw, dOp, dUn, dTest, dTruth, dAnd, dOr, dNot, dYes, dIf, dAndV, dOrV, dNotV, dNotT, dChain, dNil, dCons, dTup, dLst, dats, dCB, dNoP, dPart, dSl, dNext, dBreak, dCont, dNever, dDrop, dRet, dRetN, dIfS, dSetG, dPar, dPar3, dAppend, dAppPop, dSetIx, dExt, dAug, dSet0, dSAdd, dSNotIn, dIter_, gi_l, gi_t, gi_b, dRng1, dRng2, dName, dGNil, dGCons, dGTup, dAsg, dFor, dWhile, dCall, dCallR, dArgs_, ga_f, ga_t, argsOf, dLc, wipeE, dListRg, dIndex, dSortSet, dSortSc, dEnum, dEnA, dZip, dIsi, dIsi2, isaT, φI, φB, φC, φNeg, add_i, add_l, add_t, mul_i, mul_l, φIx, sl_l, sl_t, eq_i, eq_s, eq_l, eq_t, eq_b, eq_n, φIsN, isN_n, isN_b, isN_i, isN_s, isN_l, isN_t, φLen, φList, φTuple, φAbs, φInt, φMax, φIsB, φIsNB, its_l, its_t, rd_sh, rd_nw, rd_br, rp_sh, rp_nw, rp_br, rp_bx, rp_raw, rp_sr, rr_sh, rr_nw, rr_br, ra_sh, ra_br, ra_bx, ra_raw, va_sh, va_nt, va_nf, va_raw, hb_n, hb_sh, hb_bx, hb_raw, hb_br, sh_n, sh_c, tr_n, tr_b, tr_i, tr_l, tr_t, ty_n, ty_b, ty_i, ty_s, ty_l, ty_t, if_ff, if_tt, Env.set, List.getElem?_cons_succ, List.getElem?_cons_zero, List.set_cons_succ, List.set_cons_zero, List.reverse_cons, List.reverse_nil, List.nil_append, List.cons_append, Option.bind_some, ite_true, ite_false]
    rw [intsD_dI]
    refine ⟨h1, ?_⟩
    rw [cutD_from _ _ (Int.natCast_nonneg _), cutD_to _ _ (Int.natCast_nonneg _), Int.toNat_natCast, e]
    exact ⟨hl, q⟩
  | false =>
    show b_turned _ ⟨[.sh (.tuple (dI ms)), .sh (.int z), .un], c⟩
    refine sq_ ?_
    try dsimp only [dVar_, gv_sh, gv_ow, gv_bx, gv_raw, gv_st, dC, dRaw, dOp, dUn, dTest, dTruth, dAnd, dOr, dNot, dYes, dIf, dAndV, dOrV, dNotV, dNotT, dChain, dNil, dCons, dTup, dLst, dats, dCB, dNoP, dPart, dSl, dNext, dBreak, dCont, dNever, dDrop, dRet, dRetN, dIfS, dSetG, dPar, dPar3, dAppend, dAppPop, dSetIx, dExt, dAug, dSet0, dSAdd, dSNotIn, dIter_, gi_l, gi_t, gi_b, dRng1, dRng2, dName, dGNil, dGCons, dGTup, dAsg, dFor, dWhile, dCall, dCallR, dArgs_, ga_f, ga_t, argsOf, dLc, wipeE, dListRg, dIndex, dSortSet, dSortSc, dEnum, dEnA, dZip, dIsi, dIsi2, isaT, φI, φB, φC, φNeg, add_i, add_l, add_t, mul_i, mul_l, φIx, sl_l, sl_t, eq_i, eq_s, eq_l, eq_t, eq_b, eq_n, φIsN, isN_n, isN_b, isN_i, isN_s, isN_l, isN_t, φLen, φList, φTuple, φAbs, φInt, φMax, φIsB, φIsNB, its_l, its_t, rd_sh, rd_nw, rd_br, rp_sh, rp_nw, rp_br, rp_bx, rp_raw, rp_sr, rr_sh, rr_nw, rr_br, ra_sh, ra_br, ra_bx, ra_raw, va_sh, va_nt, va_nf, va_raw, hb_n, hb_sh, hb_bx, hb_raw, hb_br, sh_n, sh_c, tr_n, tr_b, tr_i, tr_l, tr_t, ty_n, ty_b, ty_i, ty_s, ty_l, ty_t, if_ff, if_tt, Env.set, List.getElem?_cons_succ, List.getElem?_cons_zero, List.set_cons_succ, List.set_cons_zero, List.reverse_cons, List.reverse_nil, List.nil_append, List.cons_append, Option.bind_some, ite_true, ite_false]
    rw [intsD_dI]
    refine ⟨h1, ?_⟩
    rw [cutD_from _ _ (Int.natCast_nonneg _), cutD_to _ _ (Int.natCast_nonneg _), Int.toNat_natCast, e]
    exact ⟨hl, q⟩
theorem dI_last {ns : List Int} {z : Int} (h : ns.getLast? = some z) : (dI ns).getLast? = some (.int z) := by
  rw [List.getLast?_map, h]; rfl
theorem φMin_dI {d : PyData} {ns : List Int} {Q : R → Prop} (hd : PyData.its d = some (dI ns)) (ne : ns ≠ []) (q : ∀ m, IsMin ns m → Q (.sh (.int m))) : φMin [d] Q := by
  have e : (PyData.its d).bind intsD = some ns := by rw [hd]; exact intsD_dI ns
  rcases its_cases hd with rfl | rfl
  · unfold φMin
    dsimp only
    rw [e]
    exact ⟨List.length_pos_iff.mpr ne, q⟩
  · unfold φMin
    dsimp only
    rw [e]
    exact ⟨List.length_pos_iff.mpr ne, q⟩
theorem Stt.rt {ns : List Int} (h : Stt ns) {p : Int} (hp : Per ns p) : Route ns p (routeF ns p) := routeF_ok h.lo hp.1 hp.2
theorem route_low {ns : List Int} (h : Stt ns) {p : Int} (hp : Per ns p) : Low ns.length (routeF ns p) := by
  obtain ⟨L, e, nd, hin⟩ := h.rt hp
  intro z hz
  rw [e] at hz
  obtain ⟨i, _, ei⟩ := itrs_mem.mp hz
  rw [← ei]; exact itr_low h.lo hp.1 hp.2 i
theorem route_len {ns : List Int} (h : Stt ns) {p : Int} (hp : Per ns p) : 1 ≤ (routeF ns p).length ∧ (routeF ns p).length ≤ ns.length := by
  obtain ⟨L, e, nd, hin⟩ := h.rt hp
  refine ⟨?_, low_len ns.length _ nd (route_low h hp)⟩
  exact List.length_pos_iff.mpr fun z => by rw [z] at hin; cases hin
/-- the last one of a route, and whom they point at -/
theorem route_last {ns : List Int} (h : Stt ns) {p : Int} (hp : Per ns p) : ∃ l, (routeF ns p).getLast? = some l ∧ Per ns l ∧ gt ns l ∈ routeF ns p ∧ (routeF ns p).getLastD 0 = l := by
  obtain ⟨L, e, nd, hin⟩ := h.rt hp
  have l1 := (route_len h hp).1
  have hL : (routeF ns p).length = L := by rw [e, itrs_len]
  have el : (routeF ns p)[L - 1]? = some (itr ns p (L - 1)) := by rw [e]; exact itrs_get (by omega)
  have e2 : (routeF ns p).getLast? = some (itr ns p (L - 1)) := by rw [List.getLast?_eq_getElem?, hL]; exact el
  refine ⟨itr ns p (L - 1), e2, itr_low h.lo hp.1 hp.2 _, ?_, ?_⟩
  · have : gt ns (itr ns p (L - 1)) = itr ns p L := by
      have : L = L - 1 + 1 := by omega
      rw [this]; rfl
    rw [this]; exact hin
  · rw [List.getLastD_eq_getLast?, e2]; rfl
/-- ring_begin: state, route -/
def b_ring_begin : DTS := (dRet (dIndex (dVar 1) (dOp φIx (dVar 0) (dOp φIx (dVar 1) (dUn φNeg (dC (.int 1)))))))
abbrev k_ring_begin : Nat := 0
def p_ring_begin : DSp := fun args c Q => ∃ (d e : PyData) (ns : List Int) (p : Int), args = [.sh d, .sh e] ∧ PyData.its d = some (dI ns) ∧ Stt ns ∧ Per ns p ∧ PyData.its e = some (dI (routeF ns p)) ∧ Q (.sh (.int (heightF ns p : Nat))) c
theorem mon_ring_begin : MonF p_ring_begin := fun args c A B h ⟨d, e, ns, p, ea, h1, h2, h3, h4, q⟩ => ⟨d, e, ns, p, ea, h1, h2, h3, h4, h _ _ q⟩
theorem m_ring_begin : ∀ args c Q, p_ring_begin args c Q → defF k_ring_begin b_ring_begin args c Q := by
  rintro _ c Q ⟨d, e, ns, p, rfl, h1, h2, h3, h4, q⟩
  show b_ring_begin _ ⟨[.sh d, .sh e], c⟩
  unfold b_ring_begin
  try dsimp only [dVar_, gv_sh, gv_ow, gv_bx, gv_raw, gv_st, dC, dRaw, dOp, dUn, dTest, dTruth, dAnd, dOr, dNot, dYes, dIf, dAndV, dOrV, dNotV, dNotT, dChain, dNil, dCons, dTup, dLst, dats, dCB, dNoP, dPart, dSl, dNext, dBreak, dCont, dNever, dDrop, dRet, dRetN, dIfS, dSetG, dPar, dPar3, dAppend, dAppPop, dSetIx, dExt, dAug, dSet0, dSAdd, dSNotIn, dIter_, gi_l, gi_t, gi_b, dRng1, dRng2, dName, dGNil, dGCons, dGTup, dAsg, dFor, dWhile, dCall, dCallR, dArgs_, ga_f, ga_t, argsOf, dLc, wipeE, dListRg, dIndex, dSortSet, dSortSc, dEnum, dEnA, dZip, dIsi, dIsi2, isaT, φI, φB, φC, φNeg, add_i, add_l, add_t, mul_i, mul_l, φIx, sl_l, sl_t, eq_i, eq_s, eq_l, eq_t, eq_b, eq_n, φIsN, isN_n, isN_b, isN_i, isN_s, isN_l, isN_t, φLen, φList, φTuple, φAbs, φInt, φMax, φIsB, φIsNB, its_l, its_t, rd_sh, rd_nw, rd_br, rp_sh, rp_nw, rp_br, rp_bx, rp_raw, rp_sr, rr_sh, rr_nw, rr_br, ra_sh, ra_br, ra_bx, ra_raw, va_sh, va_nt, va_nf, va_raw, hb_n, hb_sh, hb_bx, hb_raw, hb_br, sh_n, sh_c, tr_n, tr_b, tr_i, tr_l, tr_t, ty_n, ty_b, ty_i, ty_s, ty_l, ty_t, if_ff, if_tt, Env.set, List.getElem?_cons_succ, List.getElem?_cons_zero, List.set_cons_succ, List.set_cons_zero, List.reverse_cons, List.reverse_nil, List.nil_append, List.cons_append, Option.bind_some, ite_true, ite_false]
  obtain ⟨l, l1, l2, l3, l4⟩ := route_last h2 h3
  rw [h4]
  dsimp only
  rw [h1]
  refine ⟨_, atI_last (dI_last l1), ?_⟩
  dsimp only
  refine ⟨_, atI_dI l2.1 l2.2, ?_⟩
  rw [intsD_dI]
  refine ⟨l3, ?_⟩
  unfold heightF beginF at q
  rw [l4] at q
  exact q
/-- ring_of: state, person, route, members -/
def b_ring_of : DTS := (dSeq (dDrop (dCall p_check_person (dCons (dVar 0) (dCons (dVar 1) dNil))))
  (dSeq (dSetG false 2 (dCall p_route_from (dCons (dVar 0) (dCons (dVar 1) dNil))))
  (dSeq (dSetG false 3 (dSl φSl (dVar 2) (dPart (dCall p_ring_begin (dCons (dVar 0) (dCons (dVar 2) dNil)))) dNoP))
  (dRet (dCB φTuple (dCons (dCall p_turned (dCons (dVar 3) (dCons (dCB φMin (dCons (dVar 3) dNil)) dNil))) dNil))))))
abbrev k_ring_of : Nat := 2
def p_ring_of : DSp := fun args c Q => ∃ (d : PyData) (ns : List Int) (p : Int), args = [.sh d, .sh (.int p)] ∧ PyData.its d = some (dI ns) ∧ Stt ns ∧ Per ns p ∧ Q (.sh (.tuple (dI (ringF ns p)))) c
theorem mon_ring_of : MonF p_ring_of := fun args c A B h ⟨d, ns, p, ea, h1, h2, h3, q⟩ => ⟨d, ns, p, ea, h1, h2, h3, h _ _ q⟩
theorem dI_lenI (ns : List Int) : ((dI ns).length : Int) = ns.length := by rw [dI_len]
theorem c_check {d : PyData} {ns : List Int} {p : Int} {c : Nat} {Q : R → Nat → Prop} (h1 : PyData.its d = some (dI ns)) (hp : Per ns p) (q : Q (.sh .none) c) : p_check_person [.sh d, .sh (.int p)] c Q :=
  ⟨d, dI ns, p, rfl, h1, hp.1, by rw [dI_lenI]; exact hp.2, q⟩
theorem c_route {d : PyData} {ns : List Int} {p : Int} {c : Nat} {Q : R → Nat → Prop} (h1 : PyData.its d = some (dI ns)) (h2 : Stt ns) (hp : Per ns p) (q : Q (.nw (dI (routeF ns p))) c) : p_route_from [.sh d, .sh (.int p)] c Q :=
  ⟨d, ns.map some, p, rfl, by rw [dO_ints]; exact h1, by rw [List.length_map]; exact .of h2.lo, by rw [List.length_map]; exact h2.le, hp.1, by rw [List.length_map]; exact hp.2, by rw [routeO_some h2.lo hp.1 hp.2]; exact q⟩
theorem begin_lt {ns : List Int} (h : Stt ns) {p : Int} (hp : Per ns p) : heightF ns p < (routeF ns p).length := by
  obtain ⟨l, l1, l2, l3, l4⟩ := route_last h hp
  unfold heightF beginF
  rw [l4]; exact List.idxOf_lt_length_of_mem l3
theorem m_ring_of : ∀ args c Q, p_ring_of args c Q → defF k_ring_of b_ring_of args c Q := by
  rintro _ c Q ⟨d, ns, p, rfl, h1, h2, h3, q⟩
  show b_ring_of _ ⟨[.sh d, .sh (.int p), .un, .un], c⟩
  unfold b_ring_of
  refine sq_ ?_
  try dsimp only [dVar_, gv_sh, gv_ow, gv_bx, gv_raw, gv_st, dC, dRaw, dOp, dUn, dTest, dTruth, dAnd, dOr, dNot, dYes, dIf, dAndV, dOrV, dNotV, dNotT, dChain, dNil, dCons, dTup, dLst, dats, dCB, dNoP, dPart, dSl, dNext, dBreak, dCont, dNever, dDrop, dRet, dRetN, dIfS, dSetG, dPar, dPar3, dAppend, dAppPop, dSetIx, dExt, dAug, dSet0, dSAdd, dSNotIn, dIter_, gi_l, gi_t, gi_b, dRng1, dRng2, dName, dGNil, dGCons, dGTup, dAsg, dFor, dWhile, dCall, dCallR, dArgs_, ga_f, ga_t, argsOf, dLc, wipeE, dListRg, dIndex, dSortSet, dSortSc, dEnum, dEnA, dZip, dIsi, dIsi2, isaT, φI, φB, φC, φNeg, add_i, add_l, add_t, mul_i, mul_l, φIx, sl_l, sl_t, eq_i, eq_s, eq_l, eq_t, eq_b, eq_n, φIsN, isN_n, isN_b, isN_i, isN_s, isN_l, isN_t, φLen, φList, φTuple, φAbs, φInt, φMax, φIsB, φIsNB, its_l, its_t, rd_sh, rd_nw, rd_br, rp_sh, rp_nw, rp_br, rp_bx, rp_raw, rp_sr, rr_sh, rr_nw, rr_br, ra_sh, ra_br, ra_bx, ra_raw, va_sh, va_nt, va_nf, va_raw, hb_n, hb_sh, hb_bx, hb_raw, hb_br, sh_n, sh_c, tr_n, tr_b, tr_i, tr_l, tr_t, ty_n, ty_b, ty_i, ty_s, ty_l, ty_t, if_ff, if_tt, Env.set, List.getElem?_cons_succ, List.getElem?_cons_zero, List.set_cons_succ, List.set_cons_zero, List.reverse_cons, List.reverse_nil, List.nil_append, List.cons_append, Option.bind_some, ite_true, ite_false]
  refine c_check h1 h3 ?_
  refine sq_ ?_
  try dsimp only [dVar_, gv_sh, gv_ow, gv_bx, gv_raw, gv_st, dC, dRaw, dOp, dUn, dTest, dTruth, dAnd, dOr, dNot, dYes, dIf, dAndV, dOrV, dNotV, dNotT, dChain, dNil, dCons, dTup, dLst, dats, dCB, dNoP, dPart, dSl, dNext, dBreak, dCont, dNever, dDrop, dRet, dRetN, dIfS, dSetG, dPar, dPar3, dAppend, dAppPop, dSetIx, dExt, dAug, dSet0, dSAdd, dSNotIn, dIter_, gi_l, gi_t, gi_b, dRng1, dRng2, dName, dGNil, dGCons, dGTup, dAsg, dFor, dWhile, dCall, dCallR, dArgs_, ga_f, ga_t, argsOf, dLc, wipeE, dListRg, dIndex, dSortSet, dSortSc, dEnum, dEnA, dZip, dIsi, dIsi2, isaT, φI, φB, φC, φNeg, add_i, add_l, add_t, mul_i, mul_l, φIx, sl_l, sl_t, eq_i, eq_s, eq_l, eq_t, eq_b, eq_n, φIsN, isN_n, isN_b, isN_i, isN_s, isN_l, isN_t, φLen, φList, φTuple, φAbs, φInt, φMax, φIsB, φIsNB, its_l, its_t, rd_sh, rd_nw, rd_br, rp_sh, rp_nw, rp_br, rp_bx, rp_raw, rp_sr, rr_sh, rr_nw, rr_br, ra_sh, ra_br, ra_bx, ra_raw, va_sh, va_nt, va_nf, va_raw, hb_n, hb_sh, hb_bx, hb_raw, hb_br, sh_n, sh_c, tr_n, tr_b, tr_i, tr_l, tr_t, ty_n, ty_b, ty_i, ty_s, ty_l, ty_t, if_ff, if_tt, Env.set, List.getElem?_cons_succ, List.getElem?_cons_zero, List.set_cons_succ, List.set_cons_zero, List.reverse_cons, List.reverse_nil, List.nil_append, List.cons_append, Option.bind_some, ite_true, ite_false]
  refine c_route h1 h2 h3 ?_
  refine sq_ ?_
  try dsimp only [dVar_, gv_sh, gv_ow, gv_bx, gv_raw, gv_st, dC, dRaw, dOp, dUn, dTest, dTruth, dAnd, dOr, dNot, dYes, dIf, dAndV, dOrV, dNotV, dNotT, dChain, dNil, dCons, dTup, dLst, dats, dCB, dNoP, dPart, dSl, dNext, dBreak, dCont, dNever, dDrop, dRet, dRetN, dIfS, dSetG, dPar, dPar3, dAppend, dAppPop, dSetIx, dExt, dAug, dSet0, dSAdd, dSNotIn, dIter_, gi_l, gi_t, gi_b, dRng1, dRng2, dName, dGNil, dGCons, dGTup, dAsg, dFor, dWhile, dCall, dCallR, dArgs_, ga_f, ga_t, argsOf, dLc, wipeE, dListRg, dIndex, dSortSet, dSortSc, dEnum, dEnA, dZip, dIsi, dIsi2, isaT, φI, φB, φC, φNeg, add_i, add_l, add_t, mul_i, mul_l, φIx, sl_l, sl_t, eq_i, eq_s, eq_l, eq_t, eq_b, eq_n, φIsN, isN_n, isN_b, isN_i, isN_s, isN_l, isN_t, φLen, φList, φTuple, φAbs, φInt, φMax, φIsB, φIsNB, its_l, its_t, rd_sh, rd_nw, rd_br, rp_sh, rp_nw, rp_br, rp_bx, rp_raw, rp_sr, rr_sh, rr_nw, rr_br, ra_sh, ra_br, ra_bx, ra_raw, va_sh, va_nt, va_nf, va_raw, hb_n, hb_sh, hb_bx, hb_raw, hb_br, sh_n, sh_c, tr_n, tr_b, tr_i, tr_l, tr_t, ty_n, ty_b, ty_i, ty_s, ty_l, ty_t, if_ff, if_tt, Env.set, List.getElem?_cons_succ, List.getElem?_cons_zero, List.set_cons_succ, List.set_cons_zero, List.reverse_cons, List.reverse_nil, List.nil_append, List.cons_append, Option.bind_some, ite_true, ite_false]
  refine ⟨d, _, ns, p, rfl, h1, h2, h3, its_l _, ?_⟩
  try dsimp only [dVar_, gv_sh, gv_ow, gv_bx, gv_raw, gv_st, dC, dRaw, dOp, dUn, dTest, dTruth, dAnd, dOr, dNot, dYes, dIf, dAndV, dOrV, dNotV, dNotT, dChain, dNil, dCons, dTup, dLst, dats, dCB, dNoP, dPart, dSl, dNext, dBreak, dCont, dNever, dDrop, dRet, dRetN, dIfS, dSetG, dPar, dPar3, dAppend, dAppPop, dSetIx, dExt, dAug, dSet0, dSAdd, dSNotIn, dIter_, gi_l, gi_t, gi_b, dRng1, dRng2, dName, dGNil, dGCons, dGTup, dAsg, dFor, dWhile, dCall, dCallR, dArgs_, ga_f, ga_t, argsOf, dLc, wipeE, dListRg, dIndex, dSortSet, dSortSc, dEnum, dEnA, dZip, dIsi, dIsi2, isaT, φI, φB, φC, φNeg, add_i, add_l, add_t, mul_i, mul_l, φIx, sl_l, sl_t, eq_i, eq_s, eq_l, eq_t, eq_b, eq_n, φIsN, isN_n, isN_b, isN_i, isN_s, isN_l, isN_t, φLen, φList, φTuple, φAbs, φInt, φMax, φIsB, φIsNB, its_l, its_t, rd_sh, rd_nw, rd_br, rp_sh, rp_nw, rp_br, rp_bx, rp_raw, rp_sr, rr_sh, rr_nw, rr_br, ra_sh, ra_br, ra_bx, ra_raw, va_sh, va_nt, va_nf, va_raw, hb_n, hb_sh, hb_bx, hb_raw, hb_br, sh_n, sh_c, tr_n, tr_b, tr_i, tr_l, tr_t, ty_n, ty_b, ty_i, ty_s, ty_l, ty_t, if_ff, if_tt, Env.set, List.getElem?_cons_succ, List.getElem?_cons_zero, List.set_cons_succ, List.set_cons_zero, List.reverse_cons, List.reverse_nil, List.nil_append, List.cons_append, Option.bind_some, ite_true, ite_false]
  rw [cutD_from _ _ (Int.natCast_nonneg _), Int.toNat_natCast, dI_drop]
  have hne : (routeF ns p).drop (heightF ns p) ≠ [] := fun e => by
    have := congrArg List.length e
    have h := begin_lt h2 h3
    rw [List.length_drop] at this
    rw [List.length_nil] at this
    omega
  have hl : ((routeF ns p).drop (heightF ns p)).length ≤ 1000 := by
    rw [List.length_drop]
    have := (route_len h2 h3).2
    have := h2.le
    omega
  refine φMin_dI (its_l _) hne fun m hm => ?_
  refine ⟨true, _, m, rfl, hm.1, by omega, ?_⟩
  try dsimp only [dVar_, gv_sh, gv_ow, gv_bx, gv_raw, gv_st, dC, dRaw, dOp, dUn, dTest, dTruth, dAnd, dOr, dNot, dYes, dIf, dAndV, dOrV, dNotV, dNotT, dChain, dNil, dCons, dTup, dLst, dats, dCB, dNoP, dPart, dSl, dNext, dBreak, dCont, dNever, dDrop, dRet, dRetN, dIfS, dSetG, dPar, dPar3, dAppend, dAppPop, dSetIx, dExt, dAug, dSet0, dSAdd, dSNotIn, dIter_, gi_l, gi_t, gi_b, dRng1, dRng2, dName, dGNil, dGCons, dGTup, dAsg, dFor, dWhile, dCall, dCallR, dArgs_, ga_f, ga_t, argsOf, dLc, wipeE, dListRg, dIndex, dSortSet, dSortSc, dEnum, dEnA, dZip, dIsi, dIsi2, isaT, φI, φB, φC, φNeg, add_i, add_l, add_t, mul_i, mul_l, φIx, sl_l, sl_t, eq_i, eq_s, eq_l, eq_t, eq_b, eq_n, φIsN, isN_n, isN_b, isN_i, isN_s, isN_l, isN_t, φLen, φList, φTuple, φAbs, φInt, φMax, φIsB, φIsNB, its_l, its_t, rd_sh, rd_nw, rd_br, rp_sh, rp_nw, rp_br, rp_bx, rp_raw, rp_sr, rr_sh, rr_nw, rr_br, ra_sh, ra_br, ra_bx, ra_raw, va_sh, va_nt, va_nf, va_raw, hb_n, hb_sh, hb_bx, hb_raw, hb_br, sh_n, sh_c, tr_n, tr_b, tr_i, tr_l, tr_t, ty_n, ty_b, ty_i, ty_s, ty_l, ty_t, if_ff, if_tt, Env.set, List.getElem?_cons_succ, List.getElem?_cons_zero, List.set_cons_succ, List.set_cons_zero, List.reverse_cons, List.reverse_nil, List.nil_append, List.cons_append, Option.bind_some, ite_true, ite_false, rq]
  have em : m = minF ((routeF ns p).drop (heightF ns p)) := by
    have := minF_ok hne
    exact Int.le_antisymm (hm.2 _ this.1) (this.2 _ hm.1)
  rw [em]
  exact q
end Lp

namespace Lp
open PySem PySem.Spec PyProof.Rows L2
local macro_rules | `(tactic| rfl') => `(tactic| try dsimp only [dVar_, gv_sh, gv_ow, gv_bx, gv_raw, gv_st, dC, dRaw, dOp, dUn, dTest, dTruth, dAnd, dOr, dNot, dYes, dIf, dAndV, dOrV, dNotV, dNotT, dChain, dNil, dCons, dTup, dLst, dats, dCB, dNoP, dPart, dSl, dNext, dBreak, dCont, dNever, dDrop, dRet, dRetN, dIfS, dSetG, dPar, dPar3, dAppend, dAppPop, dSetIx, dExt, dAug, dSet0, dSAdd, dSNotIn, dIter_, gi_l, gi_t, gi_b, dRng1, dRng2, dName, dGNil, dGCons, dGTup, dAsg, dFor, dWhile, dCall, dCallR, dArgs_, ga_f, ga_t, argsOf, dLc, wipeE, dListRg, dIndex, dSortSet, dSortSc, dEnum, dEnA, dZip, dIsi, dIsi2, isaT, φI, φB, φC, φNeg, add_i, add_l, add_t, mul_i, mul_l, φIx, sl_l, sl_t, eq_i, eq_s, eq_l, eq_t, eq_b, eq_n, φIsN, isN_n, isN_b, isN_i, isN_s, isN_l, isN_t, φLen, φList, φTuple, φAbs, φInt, φMax, φIsB, φIsNB, its_l, its_t, rd_sh, rd_nw, rd_br, rp_sh, rp_nw, rp_br, rp_bx, rp_raw, rp_sr, rr_sh, rr_nw, rr_br, ra_sh, ra_br, ra_bx, ra_raw, va_sh, va_nt, va_nf, va_raw, hb_n, hb_sh, hb_bx, hb_raw, hb_br, sh_n, sh_c, tr_n, tr_b, tr_i, tr_l, tr_t, ty_n, ty_b, ty_i, ty_s, ty_l, ty_t, if_ff, if_tt, Env.set, List.getElem?_cons_succ, List.getElem?_cons_zero, List.set_cons_succ, List.set_cons_zero, List.reverse_cons, List.reverse_nil, List.nil_append, List.cons_append, Option.bind_some, ite_true, ite_false])
theorem rg0 (n : Nat) : rgD 0 n = (List.range n).map fun i : Nat => .int (i : Nat) := by
  unfold rgD
  exact List.map_congr_left fun i _ => by rw [Int.zero_add]
theorem per_nat {ns : List Int} {j : Nat} (h : j < ns.length) : Per ns (j : Int) := ⟨Int.natCast_nonneg _, by omega⟩
theorem ring_ne {ns : List Int} (h : Stt ns) {p : Int} (hp : Per ns p) : ringF ns p ≠ [] := by
  unfold ringF
  refine turnF_ne fun e => ?_
  have := congrArg List.length e
  have h := begin_lt h hp
  rw [List.length_drop, List.length_nil] at this
  unfold heightF at h
  omega
theorem Stt.rg {ns : List Int} (h : Stt ns) : -(2 ^ 62) ≤ (ns.length : Int) ∧ (ns.length : Int) < 2 ^ 62 := by have := h.le; omega
theorem φAll_dB {any : Bool} {bs : List Bool} {Q : R → Prop} (q : Q (.sh (.bool (if any then bs.any id else bs.all id)))) : φAll any [.list (dB bs)] Q := by
  unfold φAll
  dsimp only
  rw [boolsD_dB]
  exact q
theorem dB_map {α : Type} (xs : List α) (f : α → Bool) : (xs.map fun x => PyData.bool (f x)) = dB (xs.map f) := by
  show _ = (xs.map f).map _
  rw [List.map_map]; rfl
theorem ring_le {ns : List Int} (h : Stt ns) {p : Int} (hp : Per ns p) : (ringF ns p).length ≤ ns.length := by
  unfold ringF turnF
  rw [List.length_append, List.length_drop, List.length_take, List.length_drop]
  have := (route_len h hp).2
  omega
theorem RingsOf.mem {ns : List Int} (h : Stt ns) {RS : List (List Int)} (hR : RingsOf ns RS) {r : List Int} (hr : r ∈ RS) : r ≠ [] ∧ r.length ≤ ns.length := by
  obtain ⟨j, hj, rfl⟩ := (hR.2.2 r).mp hr
  exact ⟨ring_ne h (per_nat hj), ring_le h (per_nat hj)⟩
theorem RingsOf.len {ns : List Int} {RS : List (List Int)} (hR : RingsOf ns RS) : RS.length ≤ ns.length := by
  have := nd_subG RS ((List.range ns.length).map fun i : Nat => ringF ns (i : Int)) hR.1 fun r hr => by
    obtain ⟨j, hj, e⟩ := (hR.2.2 r).mp hr
    exact List.mem_map.mpr ⟨j, List.mem_range.mpr hj, e⟩
  rw [List.length_map, List.length_range] at this
  exact this
end Lp

namespace Lp
open PySem PySem.Spec PyProof.Rows L2
local macro_rules | `(tactic| rfl') => `(tactic| try dsimp only [dVar_, gv_sh, gv_ow, gv_bx, gv_raw, gv_st, dC, dRaw, dOp, dUn, dTest, dTruth, dAnd, dOr, dNot, dYes, dIf, dAndV, dOrV, dNotV, dNotT, dChain, dNil, dCons, dTup, dLst, dats, dCB, dNoP, dPart, dSl, dNext, dBreak, dCont, dNever, dDrop, dRet, dRetN, dIfS, dSetG, dPar, dPar3, dAppend, dAppPop, dSetIx, dExt, dAug, dSet0, dSAdd, dSNotIn, dIter_, gi_l, gi_t, gi_b, dRng1, dRng2, dName, dGNil, dGCons, dGTup, dAsg, dFor, dWhile, dCall, dCallR, dArgs_, ga_f, ga_t, argsOf, dLc, wipeE, dListRg, dIndex, dSortSet, dSortSc, dEnum, dEnA, dZip, dIsi, dIsi2, isaT, φI, φB, φC, φNeg, add_i, add_l, add_t, mul_i, mul_l, φIx, sl_l, sl_t, eq_i, eq_s, eq_l, eq_t, eq_b, eq_n, φIsN, isN_n, isN_b, isN_i, isN_s, isN_l, isN_t, φLen, φList, φTuple, φAbs, φInt, φMax, φIsB, φIsNB, its_l, its_t, rd_sh, rd_nw, rd_br, rp_sh, rp_nw, rp_br, rp_bx, rp_raw, rp_sr, rr_sh, rr_nw, rr_br, ra_sh, ra_br, ra_bx, ra_raw, va_sh, va_nt, va_nf, va_raw, hb_n, hb_sh, hb_bx, hb_raw, hb_br, sh_n, sh_c, tr_n, tr_b, tr_i, tr_l, tr_t, ty_n, ty_b, ty_i, ty_s, ty_l, ty_t, if_ff, if_tt, Env.set, List.getElem?_cons_succ, List.getElem?_cons_zero, List.set_cons_succ, List.set_cons_zero, List.reverse_cons, List.reverse_nil, List.nil_append, List.cons_append, Option.bind_some, ite_true, ite_false])
def p_law_take : DSp := fun args c Q => ∃ span : Int, args = [.bx, .sh (.int span)] ∧ 1 ≤ span ∧ span ≤ 10000000000000 ∧ c ≤ 900000000 ∧ ∀ (r : Int) (c' : Nat), 0 ≤ r → r < span → c' ≤ c + 3 → Q (.sh (.int r)) c'
theorem mon_law_take : MonF p_law_take := fun args c A B h ⟨s, e, h1, h2, h3, q⟩ => ⟨s, e, h1, h2, h3, fun r c' a b d => h _ _ (q r c' a b d)⟩
theorem c_take {span : Int} {c : Nat} {Q : R → Nat → Prop} (h1 : 1 ≤ span) (h2 : span ≤ 10000000000000) (h3 : c ≤ 900000000) (q : ∀ (r : Int) (c' : Nat), 0 ≤ r → r < span → c' ≤ c + 3 → Q (.sh (.int r)) c') : p_law_take [.bx, .sh (.int span)] c Q := ⟨span, rfl, h1, h2, h3, q⟩
/-- _law_pick: _law_box_here, _law_some -/
def b_law_pick : DTS := (dRet (dOp φIx (dVar 1) (dCall p_law_take (dCons (dVar 0) (dCons (dCB φLen (dCons (dVar 1) dNil)) dNil)))))
abbrev k_law_pick : Nat := 0
def p_law_pick : DSp := fun args c Q => ∃ (d : PyData) (ds : List PyData), args = [.bx, .sh d] ∧ PyData.its d = some ds ∧ ds ≠ [] ∧ ds.length ≤ 1000000 ∧ c ≤ 900000000 ∧ ∀ e c', e ∈ ds → c' ≤ c + 3 → Q (.sh e) c'
theorem mon_law_pick : MonF p_law_pick := fun args c A B h ⟨s, ds, e, h1, h2, h3, h4, q⟩ => ⟨s, ds, e, h1, h2, h3, h4, fun r c' a b => h _ _ (q r c' a b)⟩
theorem m_law_pick : ∀ args c Q, p_law_pick args c Q → defF k_law_pick b_law_pick args c Q := by
  rintro _ c Q ⟨d, ds, rfl, h1, h2, h3, h4, q⟩
  have hl : 1 ≤ ds.length := List.length_pos_iff.mpr h2
  show b_law_pick _ ⟨[.bx, .sh d], c⟩
  unfold b_law_pick
  rfl'
  rw [h1]
  rfl'
  refine c_take (by omega) (by omega) h4 fun r c' r0 r1 hc => ?_
  rfl'
  rw [h1]
  have hr : r.toNat < ds.length := by omega
  exact ⟨ds[r.toNat], by rw [atI_nat r0 r1]; exact List.getElem?_eq_getElem hr, q _ _ (List.getElem_mem hr) hc⟩
/-- _law_strewn: _law_box_here, _law_some, _law_left, _law_found, _law_turn -/
def b_law_strewn : DTS := (dSeq (dPar 2 true 3 true (dCB φList (dCons (dVar 1) dNil)) (dLst dNil))
  (dSeq (dFor (dRng1 (dCons (dCB φLen (dCons (dVar 2) dNil)) dNil)) (dName 4) (dAppPop 3 2 (dCall p_law_take (dCons (dVar 0) (dCons (dCB φLen (dCons (dVar 2) dNil)) dNil)))))
  (dRet (dVar 3))))
abbrev k_law_strewn : Nat := 3
def p_law_strewn : DSp := fun args c Q => ∃ (d : PyData) (ds : List PyData), args = [.bx, .sh d] ∧ PyData.its d = some ds ∧ ds.length ≤ 100000 ∧ c + 3 * ds.length ≤ 900000000 ∧ ∀ es c', es.Perm ds → c' ≤ c + 3 * ds.length → Q (.nw es) c'
theorem mon_law_strewn : MonF p_law_strewn := fun args c A B h ⟨s, ds, e, h1, h2, h3, q⟩ => ⟨s, ds, e, h1, h2, h3, fun r c' a b => h _ _ (q r c' a b)⟩
theorem erase_perm {α : Type} : ∀ (l : List α) (i : Nat) (h : i < l.length), (l[i] :: l.eraseIdx i).Perm l
  | _ :: _, 0, _ => List.Perm.refl _
  | x :: r, i + 1, h => (List.Perm.swap x (r[i]'(Nat.lt_of_succ_lt_succ h)) (r.eraseIdx i)).trans ((erase_perm r i (Nat.lt_of_succ_lt_succ h)).cons x)
theorem perm_pop {ds es fs : List PyData} {i : Nat} {d : PyData} (hd : ds[i]? = some d) (hp : (es ++ ds).Perm fs) : ((es ++ [d]) ++ ds.eraseIdx i).Perm fs := by
  obtain ⟨hi, rfl⟩ := List.getElem?_eq_some_iff.mp hd
  refine List.Perm.trans ?_ hp
  rw [List.append_assoc]
  refine List.Perm.append_left es ?_
  exact erase_perm ds i hi
theorem strewn_loop {x : SV} {Δ : DEnds} {p : DTS} (hp : p = dAppPop 3 2 (dCall p_law_take (dCons (dVar 0) (dCons (dCB φLen (dCons (dVar 2) dNil)) dNil)))) {fs : List PyData} (hfs : fs.length ≤ 100000) :
    ∀ (js ds es : List PyData) (y : SV) (c : Nat), js.length = ds.length → (es ++ ds).Perm fs → c + 3 * ds.length ≤ 900000000 → (∀ es c' y, es.Perm fs → c' ≤ c + 3 * ds.length → Δ.nx ⟨[.bx, x, .ow [], .ow es, y], c'⟩) →
      forD (dName 4) p Δ js ⟨[.bx, x, .ow ds, .ow es, y], c⟩
  | [], ds, es, y, c, hl, hp, hc, q => by
    have : ds = [] := List.length_eq_zero_iff.mp hl.symm
    subst this
    rw [List.append_nil] at hp
    exact q es c y hp (by omega)
  | j :: js, ds, es, y, c, hl, hq, hc, q => by
    have hlen : (es ++ ds).length = fs.length := hq.length_eq
    rw [List.length_append] at hlen
    rw [List.length_cons] at hl
    refine for_cons ?_
    subst hp
    rfl'
    refine c_take (by omega) (by omega) (by omega) fun r c' r0 r1 hc' => ?_
    rfl'
    have hr : r.toNat < ds.length := by omega
    have h4 : (ds.eraseIdx r.toNat).length = ds.length - 1 := List.length_eraseIdx_of_lt hr
    refine ⟨r0, r1, by omega, show es.length < 16777216 by omega, ds[r.toNat], List.getElem?_eq_getElem hr, ?_⟩
    exact strewn_loop rfl hfs js (ds.eraseIdx r.toNat) (es ++ [ds[r.toNat]]) _ c' (by omega) (perm_pop (List.getElem?_eq_getElem hr) hq) (by omega) fun es c2 y h1 h2 => q es c2 y h1 (by omega)
theorem m_law_strewn : ∀ args c Q, p_law_strewn args c Q → defF k_law_strewn b_law_strewn args c Q := by
  rintro _ c Q ⟨d, ds, rfl, h1, h2, h3, q⟩
  show b_law_strewn _ ⟨[.bx, .sh d, .un, .un, .un], c⟩
  unfold b_law_strewn
  refine sq_ ?_
  rfl'
  rw [h1]
  rfl'
  refine sq_ ?_
  rfl'
  refine ⟨by omega, rfl, strewn_loop rfl h2 _ ds [] _ c (by unfold rgD; rw [List.length_map, List.length_range, Int.toNat_natCast]) (List.Perm.refl _) h3 fun es c' y hp hc => ?_⟩
  rfl'
  exact q es c' hp hc
/-- _law_net_of: _law_box_here, _law_length, _law_kind, _law_row, _law_turn_at, _law_found, _law_at, _law_who -/
def b_law_net_of : DTS := (dSeq (dSetG false 3 (dCall p_law_strewn (dCons (dVar 0) (dCons (dListRg (dVar 1)) dNil))))
  (dSeq (dSetG false 4 (dOp φIx (dLst (dCons (dC (.int 0)) (dCons (dVar 1) (dCons (dC (.int 1)) (dCons (dOp φAdd (dC (.int 1)) (dCall p_law_take (dCons (dVar 0) (dCons (dVar 1) dNil)))) (dCons (dVar 1) (dCons (dC (.int 1)) dNil))))))) (dVar 2)))
  (dSeq (dIfS (dTest (dOp (φEq false) (dVar 2) (dC (.int 4)))) (dRet (dCB φTuple (dCons (dVar 3) dNil))) dNext)
  (dSeq (dSetG true 5 (dOp φMul (dLst (dCons (dC (.int 0)) dNil)) (dVar 1)))
  (dSeq (dFor (dEnA (dCons (dVar 3) dNil)) (dGTup 2 (dGCons (dName 6) (dGCons (dName 7) dGNil))) (dIfS (dTest (dOp (φEq false) (dVar 2) (dC (.int 0)))) (dSetIx 5 (dCall p_law_take (dCons (dVar 0) (dCons (dVar 1) dNil))) (dVar 7)) (dIfS (dTest (dOp (φB fun i j => decide (i < j)) (dVar 6) (dVar 4))) (dSetIx 5 (dOp φIx (dVar 3) (dOp (φC (fun _ j => 0 < j) fun i j => i % j) (dOp φAdd (dVar 6) (dC (.int 1))) (dVar 4))) (dVar 7)) (dSetIx 5 (dIf (dTest (dOp (φEq false) (dVar 2) (dC (.int 5)))) (dOp φIx (dVar 3) (dOp (φI fun i j => i - j) (dVar 6) (dC (.int 1)))) (dOp φIx (dVar 3) (dCall p_law_take (dCons (dVar 0) (dCons (dVar 6) dNil))))) (dVar 7)))))
  (dRet (dCB φTuple (dCons (dVar 5) dNil))))))))
abbrev k_law_net_of : Nat := 5
def NetOk (n : Nat) (ns : List Int) : Prop := ns.length = n ∧ Low n ns
def p_law_net_of : DSp := fun args c Q => ∃ (n k : Int), args = [.bx, .sh (.int n), .sh (.int k)] ∧ 1 ≤ n ∧ n ≤ 1000 ∧ 0 ≤ k ∧ k < 6 ∧ c ≤ 800000000 ∧ ∀ ns c', NetOk n.toNat ns → c' ≤ c + 10000 → Q (.sh (.tuple (dI ns))) c'
theorem mon_law_net_of : MonF p_law_net_of := fun args c A B h ⟨n, k, e, h1, h2, h3, h4, h5, q⟩ => ⟨n, k, e, h1, h2, h3, h4, h5, fun r c' a b => h _ _ (q r c' a b)⟩
def unI : PyData → Int
  | .int z => z
  | _ => 0
theorem perm_dI {es : List PyData} {ns : List Int} (h : es.Perm (dI ns)) : ∃ ms : List Int, es = dI ms ∧ ms.Perm ns := by
  refine ⟨es.map unI, ?_, ?_⟩
  · show es = (es.map unI).map _
    rw [List.map_map]
    refine (List.map_id es).symm.trans (List.map_congr_left fun e he => ?_)
    obtain ⟨z, _, rfl⟩ := List.mem_map.mp (h.mem_iff.mp he)
    rfl
  · have := h.map unI
    have e : (dI ns).map unI = ns := by
      show (ns.map _).map _ = ns
      rw [List.map_map]
      exact List.map_id ns
    rw [e] at this
    exact this
theorem perm_rg {n : Nat} {es : List PyData} (h : es.Perm (rgD 0 n)) : ∃ ms : List Int, es = dI ms ∧ ms.Perm ((List.range n).map fun i : Nat => (i : Int)) := by
  have : rgD 0 n = dI ((List.range n).map fun i : Nat => (i : Int)) := by
    rw [rg0]; show _ = ((List.range n).map _).map _; rw [List.map_map]; rfl
  rw [this] at h
  obtain ⟨ms, e, hp⟩ := perm_dI h
  exact ⟨ms, e, hp⟩
theorem perm_low {n : Nat} {ms : List Int} (h : ms.Perm ((List.range n).map fun i : Nat => (i : Int))) : ms.length = n ∧ Low n ms := by
  refine ⟨by rw [h.length_eq, List.length_map, List.length_range], fun z hz => ?_⟩
  obtain ⟨j, hj, rfl⟩ := List.mem_map.mp (h.mem_iff.mp hz)
  have := List.mem_range.mp hj
  omega
theorem enD_dI (ms : List Int) : enD (dI ms) = ms.zipIdx.map fun p => .tuple [.int (p.2 : Nat), .int p.1] := by
  unfold enD
  rw [List.mapIdx_eq_zipIdx_map]
  show ((ms.map _).zipIdx).map _ = _
  rw [List.zipIdx_map, List.map_map]
  rfl
theorem net_loop {n k t : Int} {row : List Int} {Δ : DEnds} {p : DTS} (hp : p = (dIfS (dTest (dOp (φEq false) (dVar 2) (dC (.int 0)))) (dSetIx 5 (dCall p_law_take (dCons (dVar 0) (dCons (dVar 1) dNil))) (dVar 7)) (dIfS (dTest (dOp (φB fun i j => decide (i < j)) (dVar 6) (dVar 4))) (dSetIx 5 (dOp φIx (dVar 3) (dOp (φC (fun _ j => 0 < j) fun i j => i % j) (dOp φAdd (dVar 6) (dC (.int 1))) (dVar 4))) (dVar 7)) (dSetIx 5 (dIf (dTest (dOp (φEq false) (dVar 2) (dC (.int 5)))) (dOp φIx (dVar 3) (dOp (φI fun i j => i - j) (dVar 6) (dC (.int 1)))) (dOp φIx (dVar 3) (dCall p_law_take (dCons (dVar 0) (dCons (dVar 6) dNil))))) (dVar 7)))))
    (n1 : 1 ≤ n) (n2 : n ≤ 1000) (hrow : NetOk n.toNat row) (ht : k = 0 ∨ (1 ≤ t ∧ t ≤ n)) :
    ∀ (ps : List (Int × Nat)) (fs : List Int) (x y : SV) (c : Nat), (∀ q ∈ ps, row[q.2]? = some q.1) → NetOk n.toNat fs → c + 3 * ps.length ≤ 900000000 →
      (∀ fs c' x y, NetOk n.toNat fs → c' ≤ c + 3 * ps.length → Δ.nx ⟨[.bx, .sh (.int n), .sh (.int k), .sh (.list (dI row)), .sh (.int t), .ow (dI fs), x, y], c'⟩) →
      forD (dGTup 2 (dGCons (dName 6) (dGCons (dName 7) dGNil))) p Δ (ps.map fun p => .tuple [.int (p.2 : Nat), .int p.1]) ⟨[.bx, .sh (.int n), .sh (.int k), .sh (.list (dI row)), .sh (.int t), .ow (dI fs), x, y], c⟩
  | [], fs, x, y, c, _, hf, _, q => q fs c x y hf (by omega)
  | (w, a) :: ps, fs, x, y, c, hps, hf, hc, q => by
    rw [List.length_cons] at hc
    have ha : row[a]? = some w := hps (w, a) List.mem_cons_self
    have hw : 0 ≤ w ∧ w < ((n.toNat : Nat) : Int) := hrow.2 w (List.mem_of_getElem? ha)
    have ha2 : a < row.length := (List.getElem?_eq_some_iff.mp ha).1
    have hl := hrow.1
    have fl := hf.1
    have step : ∀ (v : Int) (c' : Nat), 0 ≤ v → v < n → c' ≤ c + 3 → ∃ m, ixN (dI fs).length w = some m ∧ forD (dGTup 2 (dGCons (dName 6) (dGCons (dName 7) dGNil))) p Δ (ps.map fun p => .tuple [.int (p.2 : Nat), .int p.1]) ⟨[.bx, .sh (.int n), .sh (.int k), .sh (.list (dI row)), .sh (.int t), .ow ((dI fs).set m (.int v)), .sh (.int (a : Nat)), .sh (.int w)], c'⟩ := by
      intro v c' v0 v1 hc'
      refine ⟨w.toNat, ixN_ok hw.1 (by rw [dI_len, fl]; exact hw.2), ?_⟩
      rw [dI_set]
      refine net_loop hp n1 n2 hrow ht ps (fs.set w.toNat v) _ _ c' (fun q hq => hps q (List.mem_cons_of_mem _ hq)) ⟨by rw [List.length_set]; exact fl, hf.2.set v0 (by omega)⟩ (by omega) fun gs c2 x y h1 h2 => q gs c2 x y h1 (by rw [List.length_cons]; omega)
    have ixr : ∀ i : Int, 0 ≤ i → i < n → ∃ z, atI (dI row) i = some (.int z) ∧ 0 ≤ z ∧ z < n := fun i h0 h1 => by
      have h2 : i < (row.length : Int) := by omega
      have := gt_low hrow.2 h0 h2
      exact ⟨_, atI_dI h0 h2, this.1, by omega⟩
    refine for_cons ?_
    rw [hp]
    rw [hp] at step
    rfl'
    refine ⟨rfl, ?_⟩
    refine it_2 (fun e0 => ?_) fun e0 => it_2 (fun e1 => ?_) fun e1 => ?_
    · refine c_take n1 (by omega) (by omega) fun r c' r0 r1 hc' => ?_
      exact step r c' r0 r1 hc'
    · have t1 : 1 ≤ t ∧ t ≤ n := ht.resolve_left e0
      have m0 := Int.emod_nonneg ((a : Int) + 1) (show t ≠ 0 by omega)
      have m1 := Int.emod_lt_of_pos ((a : Int) + 1) (show 0 < t by omega)
      obtain ⟨z, hz, z0, z1⟩ := ixr (((a : Int) + 1) % t) m0 (by omega)
      exact ⟨by omega, .int z, hz, step z c z0 z1 (by omega)⟩
    · have t1 : 1 ≤ t ∧ t ≤ n := ht.resolve_left e0
      refine it_2 (fun e2 => ?_) fun e2 => ?_
      · obtain ⟨z, hz, z0, z1⟩ := ixr ((a : Int) - 1) (by omega) (by omega)
        exact ⟨.int z, hz, step z c z0 z1 (by omega)⟩
      · refine c_take (by omega) (by omega) (by omega) fun r c' r0 r1 hc' => ?_
        obtain ⟨z, hz, z0, z1⟩ := ixr r r0 (by omega)
        exact ⟨.int z, hz, step z c' z0 z1 hc'⟩
theorem m_law_net_of : ∀ args c Q, p_law_net_of args c Q → defF k_law_net_of b_law_net_of args c Q := by
  rintro _ c Q ⟨n, k, rfl, h1, h2, h3, h4, h5, q⟩
  show b_law_net_of _ ⟨[.bx, .sh (.int n), .sh (.int k), .un, .un, .un, .un, .un], c⟩
  unfold b_law_net_of
  refine sq_ ?_
  rfl'
  refine ⟨by omega, by omega, ?_⟩
  have hl0 : (rgD 0 n.toNat).length = n.toNat := by unfold rgD; rw [List.length_map, List.length_range]
  refine ⟨_, _, rfl, its_l _, by omega, by omega, fun es c1 hp hc1 => ?_⟩
  obtain ⟨row, rfl, hrow⟩ := perm_rg hp
  have hrow := perm_low hrow
  refine sq_ ?_
  rfl'
  refine c_take h1 (by omega) (by omega) fun r c2 r0 r1 hc2 => ?_
  rfl'
  have ht : ∃ t : Int, atI [PyData.int 0, .int n, .int 1, .int (1 + r), .int n, .int 1] k = some (.int t) ∧ (k = 0 ∨ (1 ≤ t ∧ t ≤ n)) := by
    have : k = 0 ∨ k = 1 ∨ k = 2 ∨ k = 3 ∨ k = 4 ∨ k = 5 := by omega
    rcases this with rfl | rfl | rfl | rfl | rfl | rfl
    · exact ⟨_, rfl, .inl rfl⟩
    · exact ⟨_, rfl, .inr (by omega)⟩
    · exact ⟨_, rfl, .inr (by omega)⟩
    · exact ⟨_, rfl, .inr (by omega)⟩
    · exact ⟨_, rfl, .inr (by omega)⟩
    · exact ⟨_, rfl, .inr (by omega)⟩
  obtain ⟨t, e, ht⟩ := ht
  refine ⟨.int t, e, ?_⟩
  refine sq_ ?_
  rfl'
  refine it_2 (fun e4 => ?_) fun e4 => ?_
  · exact q row c2 hrow (by omega)
  · refine sq_ ?_
    rfl'
    refine ⟨⟨by omega, by omega, show 1 * n.toNat ≤ 16777216 by omega⟩, ?_⟩
    refine sq_ ?_
    rfl'
    have hfs : (List.replicate n.toNat [PyData.int 0]).flatten = dI (List.replicate n.toNat 0) := by
      show _ = (List.replicate n.toNat (0 : Int)).map _
      rw [List.map_replicate]
      generalize n.toNat = m
      clear hrow hl0 hc1 hp q
      induction m with
      | zero => rfl
      | succ m ih => rw [List.replicate_succ, List.flatten_cons, ih, List.replicate_succ]; rfl
    rw [hfs, enD_dI]
    refine ⟨rfl, net_loop rfl h1 h2 hrow ht row.zipIdx _ _ _ c2 (fun q hq => ?_) ⟨List.length_replicate, fun z hz => ?_⟩ ?_ fun fs c3 x y h6 h7 => ?_⟩
    · exact List.mem_zipIdx_iff_getElem?.mp hq
    · rw [List.eq_of_mem_replicate hz]; omega
    · rw [List.length_zipIdx, hrow.1]; omega
    · rfl'
      refine q fs c3 h6 ?_
      rw [List.length_zipIdx, hrow.1] at h7
      omega
end Lp

namespace Lp
open PySem PySem.Spec PyProof.Rows L2
local macro_rules | `(tactic| rfl') => `(tactic| try dsimp only [dVar_, gv_sh, gv_ow, gv_bx, gv_raw, gv_st, dC, dRaw, dOp, dUn, dTest, dTruth, dAnd, dOr, dNot, dYes, dIf, dAndV, dOrV, dNotV, dNotT, dChain, dNil, dCons, dTup, dLst, dats, dCB, dNoP, dPart, dSl, dNext, dBreak, dCont, dNever, dDrop, dRet, dRetN, dIfS, dSetG, dPar, dPar3, dAppend, dAppPop, dSetIx, dExt, dAug, dSet0, dSAdd, dSNotIn, dIter_, gi_l, gi_t, gi_b, dRng1, dRng2, dName, dGNil, dGCons, dGTup, dAsg, dFor, dWhile, dCall, dCallR, dArgs_, ga_f, ga_t, argsOf, dLc, wipeE, dListRg, dIndex, dSortSet, dSortSc, dEnum, dEnA, dZip, dIsi, dIsi2, isaT, φI, φB, φC, φNeg, add_i, add_l, add_t, mul_i, mul_l, φIx, sl_l, sl_t, eq_i, eq_s, eq_l, eq_t, eq_b, eq_n, φIsN, isN_n, isN_b, isN_i, isN_s, isN_l, isN_t, φLen, φList, φTuple, φAbs, φInt, φMax, φIsB, φIsNB, its_l, its_t, rd_sh, rd_nw, rd_br, rp_sh, rp_nw, rp_br, rp_bx, rp_raw, rp_sr, rr_sh, rr_nw, rr_br, ra_sh, ra_br, ra_bx, ra_raw, va_sh, va_nt, va_nf, va_raw, hb_n, hb_sh, hb_bx, hb_raw, hb_br, sh_n, sh_c, tr_n, tr_b, tr_i, tr_l, tr_t, ty_n, ty_b, ty_i, ty_s, ty_l, ty_t, if_ff, if_tt, Env.set, List.getElem?_cons_succ, List.getElem?_cons_zero, List.set_cons_succ, List.set_cons_zero, List.reverse_cons, List.reverse_nil, List.nil_append, List.cons_append, Option.bind_some, ite_true, ite_false])
/-- all but b stand as they stood -/
def Sb (b : Addr) (H H' : Hp) : Prop := ∀ a o, a ≠ b → H a = some o → H' a = some o
theorem Sb.refl (b : Addr) (H : Hp) : Sb b H H := fun _ _ _ h => h
theorem Sb.trans {b : Addr} {H H1 H2 : Hp} (x : Sb b H H1) (y : Sb b H1 H2) : Sb b H H2 := fun a o n h => y a o n (x a o n h)
theorem Sb.upd {b : Addr} {H H1 : Hp} {o : HO} (x : Sb b H H1) : Sb b H (upd H1 b o) := fun a u n h => by
  rw [upd_ne n]; exact x a u n h
theorem same_new {H : Hp} {p : Addr} {o : HO} (h : H p = none) : Same H (upd H p o) := fun a u e => by
  rw [upd_ne (ne_of_none e h)]; exact e
def spTake : Sp := fun vs H Q _ => ∃ (b : Addr) (span : Int) (c : Nat), vs = [.ref b, .int span] ∧ Box H b c ∧ c ≤ 1000000000 ∧ 1 ≤ span ∧ span ≤ 10000000 ∧
  ∀ H' (r : Int), Sb b H H' → Box H' b (c + 1) → 0 ≤ r → r < span → Q (.int r) H'
def spTakeW : Sp := fun vs H Q _ => ∃ (b : Addr) (span : Int) (c : Nat), vs = [.ref b, .int span] ∧ Box H b c ∧ c ≤ 900000000 ∧ 1 ≤ span ∧ span ≤ 10000000000000 ∧
  ∀ H' (r : Int), Sb b H H' → Box H' b (c + 2) → 0 ≤ r → r < span → Q (.int r) H'
def spTakeB : Sp := fun vs H Q _ => ∃ (b : Addr) (span : Int) (c : Nat), vs = [.ref b, .int span] ∧ Box H b c ∧ c ≤ 900000000 ∧ 10000000 < span ∧ span ≤ 10000000000000 ∧
  ∀ H' (r : Int), Sb b H H' → Box H' b (c + 2) → 0 ≤ r → r < span → Q (.int r) H'
theorem take_imp {vs : List V} {H : Hp} {Q : VK} {E : XK} (h : spD 2 p_law_take vs H Q E) : spTakeW vs H Q E := by
  obtain ⟨b, L, c, args, hl, cz, ar, span, rfl, h1, h2, h3, q⟩ := h
  cases ar with
  | cons a0 r0 =>
    cases r0 with
    | cons a1 r1 =>
      cases r1
      obtain ⟨a, rfl, rfl⟩ := a0
      cases a1
      obtain ⟨sl, hb⟩ := cz
      obtain ⟨nl, bx⟩ := hb a rfl
      refine ⟨a, span, c, rfl, bx, h3, h1, h2, fun H' r sb bx' r0 r1 => ?_⟩
      have keep : Same L H' := fun x o e => sb x o (fun z => by rw [z, nl] at e; cases e) (sl x o e)
      refine q r (c + 2) r0 r1 (by omega) (.int r) L H' ⟨keep, fun x e => by cases e; exact ⟨nl, bx'⟩⟩ ⟨Same.refl L, fun x o e n => sb x o (fun z => n (by rw [z])) e, fun x hx => ?_, fun x n _ => n⟩ (.int r)
      by_cases z : x = a
      · rw [z]; exact bx'.there
      · cases e : H x with
        | none => exact absurd e hx
        | some o => rw [sb x o z e]; exact fun z => nomatch z
def spBox (K : PySem.W.Frag) : Sp := fun vs H Q _ => ∃ (a : Addr) (k : Int) (ns : List Int), vs = [.ref a, .int k] ∧ SqL K H a (IL ns) ∧ 0 ≤ k ∧ k ≤ 62 ∧
  ∀ H' p, Same H H' → H p = none → Box H' p 0 → Q (.ref p) H'
def spLaw (K : PySem.W.Frag) : Sp := fun vs H Q _ => ∃ (a : Addr) (ns : List Int), vs = [.ref a] ∧ SqL K H a (IL ns) ∧ ns.length ≤ 63 ∧ ∀ H', Q (.bl true) H'
/-- a call of what draws from a box alone and answers True -/
theorem right_do {F : DSp} {H : Hp} {b : Addr} {c : Nat} {Q : VK} {E : XK} (bx : Box H b c) (h : ∀ Q : R → Nat → Prop, (∀ c', Q (.sh (.bool true)) c') → F [.bx] c Q) (q : ∀ H', Sb b H H' → (∃ c', Box H' b c') → Q (.bl true) H') : spD 1 F [.ref b] H Q E := by
  refine ⟨some b, fun _ => none, c, [.bx], rfl, ⟨(fun _ _ h => nomatch h), fun a e => by cases e; exact ⟨rfl, bx⟩⟩, .cons ⟨b, rfl, rfl⟩ .nil, h _ fun c' v L' H' cz ex vr => ?_⟩
  cases vr
  exact q H' (fun a o n e => ex.hh a o e fun z => n (by cases z; rfl)) ⟨c', (cz.2 b rfl).2⟩
theorem fn_or {P : Program} {w : World} {K : PySem.W.Frag} {mg : Str → Option Value} {base : Heap} {k : Nat} {f : Addr} {fd : FuncData} {ps : List Str} {s1 s2 : Sp} (F1 : FnOk P w K mg base CX0 k f fd ps s1) (F2 : FnOk P w K mg base CX0 k f fd ps s2) : FnOk P w K mg base CX0 k f fd ps (fun vs H Q E => s1 vs H Q E ∨ s2 vs H Q E) :=
  ⟨fun vs H Q E h => h.elim (F1.len vs H Q E) (F2.len vs H Q E), fun A outer s H args us vs Q E hr he hb hv hs => hs.elim (F1.run A outer s H args us vs Q E hr he hb hv) (F2.run A outer s H args us vs Q E hr he hb hv)⟩
theorem yes_ok {te : TE} {σ : L2.St} {H : Hp} {R : V → Hp → Prop} {S : Hp → Prop} (h : te σ H R) : tYes σ H fun b H3 => if b = true then te σ H3 R else S H3 :=
  iteT (B := S H) h
theorem rep_bl (n : Nat) : (List.replicate n true).map V.bl = List.replicate n (.bl true) := by rw [List.map_replicate]
theorem rep_app (n : Nat) (x : V) : List.replicate n x ++ [x] = List.replicate (n + 1) x := by
  rw [List.replicate_succ']
theorem rep_all (n : Nat) : (List.replicate n true).all id = true := by
  rw [List.all_replicate]; split <;> rfl
/-- a list stands where its object stands -/
theorem SqL.keep {K : PySem.W.Frag} {H H' : Hp} {a : Addr} {xs : List V} (h : SqL K H a xs) (k : ∀ o, H a = some o → H' a = some o) : SqL K H' a xs := by
  rcases h with h | h
  · refine .inl ?_
    rcases h with h | ⟨o, h⟩
    · exact .inl (k _ h)
    · exact .inr ⟨o, k _ h⟩
  · exact .inr h
theorem at_lt {ns : List Int} {i : Int} (h0 : 0 ≤ i) (h1 : i < (ns.length : Int)) : ∃ z, atI (IL ns) i = some (.int z) := by
  refine ⟨gt ns i, ?_⟩
  rw [atI_nat h0 (by rw [List.length_map]; exact h1), List.getElem?_map, gt_get h0 h1]; rfl
def Stay (K : PySem.W.Frag) (D a : Addr) (xs : List V) (H : Hp) : Prop := (∃ o, H a = some o ∧ a ≠ D ∧ ∀ H', H' a = some o → SqL K H' a xs) ∨ ∀ H', SqL K H' a xs
theorem Stay.of {K : PySem.W.Frag} {D a : Addr} {xs : List V} {H : Hp} {u : HO} (h : SqL K H a xs) (n : H D = none) : Stay K D a xs (upd H D u) := by
  rcases h with h | h
  · refine .inl ?_
    rcases h with h | ⟨o, h⟩
    · have z : a ≠ D := ne_of_none h n
      exact ⟨_, by rw [upd_ne z]; exact h, z, fun H' e => .inl (.inl e)⟩
    · have z : a ≠ D := ne_of_none h n
      exact ⟨_, by rw [upd_ne z]; exact h, z, fun H' e => .inl (.inr ⟨o, e⟩)⟩
  · exact .inr fun H' => .inr h
theorem Stay.sq {K : PySem.W.Frag} {D a : Addr} {xs : List V} {H : Hp} (h : Stay K D a xs H) : SqL K H a xs := by
  rcases h with ⟨o, e, _, h⟩ | h
  · exact h H e
  · exact h H
theorem Stay.step {K : PySem.W.Frag} {D a b : Addr} {xs : List V} {H H6 H7 : Hp} {u : HO} (h : Stay K D a xs H) (s : Same H H6) (n : H b = none) (sb : Sb b H6 H7) : Stay K D a xs (upd H7 D u) := by
  rcases h with ⟨o, e, z, h⟩ | h
  · exact .inl ⟨o, by rw [upd_ne z]; exact sb a o (ne_of_none e n) (s a o e), z, h⟩
  · exact .inr h
end Lp

namespace Lp
open PySem PySem.Spec PyProof.Rows L2
local macro_rules | `(tactic| rfl') => `(tactic| try dsimp only [dVar_, gv_sh, gv_ow, gv_bx, gv_raw, gv_st, dC, dRaw, dOp, dUn, dTest, dTruth, dAnd, dOr, dNot, dYes, dIf, dAndV, dOrV, dNotV, dNotT, dChain, dNil, dCons, dTup, dLst, dats, dCB, dNoP, dPart, dSl, dNext, dBreak, dCont, dNever, dDrop, dRet, dRetN, dIfS, dSetG, dPar, dPar3, dAppend, dAppPop, dSetIx, dExt, dAug, dSet0, dSAdd, dSNotIn, dIter_, gi_l, gi_t, gi_b, dRng1, dRng2, dName, dGNil, dGCons, dGTup, dAsg, dFor, dWhile, dCall, dCallR, dArgs_, ga_f, ga_t, argsOf, dLc, wipeE, dListRg, dIndex, dSortSet, dSortSc, dEnum, dEnA, dZip, dIsi, dIsi2, isaT, φI, φB, φC, φNeg, add_i, add_l, add_t, mul_i, mul_l, φIx, sl_l, sl_t, eq_i, eq_s, eq_l, eq_t, eq_b, eq_n, φIsN, isN_n, isN_b, isN_i, isN_s, isN_l, isN_t, φLen, φList, φTuple, φAbs, φInt, φMax, φIsB, φIsNB, its_l, its_t, rd_sh, rd_nw, rd_br, rp_sh, rp_nw, rp_br, rp_bx, rp_raw, rp_sr, rr_sh, rr_nw, rr_br, ra_sh, ra_br, ra_bx, ra_raw, va_sh, va_nt, va_nf, va_raw, hb_n, hb_sh, hb_bx, hb_raw, hb_br, sh_n, sh_c, tr_n, tr_b, tr_i, tr_l, tr_t, ty_n, ty_b, ty_i, ty_s, ty_l, ty_t, if_ff, if_tt, Env.set, List.getElem?_cons_succ, List.getElem?_cons_zero, List.set_cons_succ, List.set_cons_zero, List.reverse_cons, List.reverse_nil, List.nil_append, List.cons_append, Option.bind_some, ite_true, ite_false])
theorem same_mut {H H' : Hp} {p : Addr} {o : HO} (s : Same H H') (h : H p = none) : Same H (upd H' p o) := fun a u e => by
  rw [upd_ne (ne_of_none e h)]; exact s a u e
theorem Box.ne {H : Hp} {b D : Addr} {c : Nat} (x : Box H b c) (n : H D = none) : b ≠ D := fun z => x.there (by rw [z]; exact n)
theorem Box.new {H : Hp} {b D : Addr} {c : Nat} {o : HO} (x : Box H b c) (n : H D = none) : Box (upd H D o) b c := x.keep (upd_ne (x.ne n))
theorem Box.put {H : Hp} {b D : Addr} {c : Nat} {o : HO} (x : Box H b c) (n : b ≠ D) : Box (upd H D o) b c := x.keep (upd_ne n)
theorem upd_keep {H : Hp} {a p : Addr} {o u : HO} (h : H a = some o) (n : H p = none) : (upd H p u) a = some o := by rw [upd_ne (ne_of_none h n)]; exact h
end Lp

namespace Lp
open PySem PySem.Spec PyProof.Rows L2
local macro_rules | `(tactic| rfl') => `(tactic| try dsimp only [dVar_, gv_sh, gv_ow, gv_bx, gv_raw, gv_st, dC, dRaw, dOp, dUn, dTest, dTruth, dAnd, dOr, dNot, dYes, dIf, dAndV, dOrV, dNotV, dNotT, dChain, dNil, dCons, dTup, dLst, dats, dCB, dNoP, dPart, dSl, dNext, dBreak, dCont, dNever, dDrop, dRet, dRetN, dIfS, dSetG, dPar, dPar3, dAppend, dAppPop, dSetIx, dExt, dAug, dSet0, dSAdd, dSNotIn, dIter_, gi_l, gi_t, gi_b, dRng1, dRng2, dName, dGNil, dGCons, dGTup, dAsg, dFor, dWhile, dCall, dCallR, dArgs_, ga_f, ga_t, argsOf, dLc, wipeE, dListRg, dIndex, dSortSet, dSortSc, dEnum, dEnA, dZip, dIsi, dIsi2, isaT, φI, φB, φC, φNeg, add_i, add_l, add_t, mul_i, mul_l, φIx, sl_l, sl_t, eq_i, eq_s, eq_l, eq_t, eq_b, eq_n, φIsN, isN_n, isN_b, isN_i, isN_s, isN_l, isN_t, φLen, φList, φTuple, φAbs, φInt, φMax, φIsB, φIsNB, its_l, its_t, rd_sh, rd_nw, rd_br, rp_sh, rp_nw, rp_br, rp_bx, rp_raw, rp_sr, rr_sh, rr_nw, rr_br, ra_sh, ra_br, ra_bx, ra_raw, va_sh, va_nt, va_nf, va_raw, hb_n, hb_sh, hb_bx, hb_raw, hb_br, sh_n, sh_c, tr_n, tr_b, tr_i, tr_l, tr_t, ty_n, ty_b, ty_i, ty_s, ty_l, ty_t, if_ff, if_tt, Env.set, List.getElem?_cons_succ, List.getElem?_cons_zero, List.set_cons_succ, List.set_cons_zero, List.reverse_cons, List.reverse_nil, List.nil_append, List.cons_append, Option.bind_some, ite_true, ite_false])
/-- _law_any_net: _law_box_here, _law_most -/
def b_law_any_net : DTS := (dRet (dCall p_law_net_of (dCons (dVar 0) (dCons (dOp φAdd (dC (.int 1)) (dCall p_law_take (dCons (dVar 0) (dCons (dVar 1) dNil)))) (dCons (dCall p_law_take (dCons (dVar 0) (dCons (dC (.int 6)) dNil))) dNil)))))
abbrev k_law_any_net : Nat := 0
def p_law_any_net : DSp := fun args c Q => ∃ m : Int, args = [.bx, .sh (.int m)] ∧ 1 ≤ m ∧ m ≤ 1000 ∧ c ≤ 700000000 ∧ ∀ ns c', Stt ns → (ns.length : Int) ≤ m → c' ≤ c + 11000 → Q (.sh (.tuple (dI ns))) c'
theorem mon_law_any_net : MonF p_law_any_net := fun args c A B h ⟨n, e, h1, h2, h3, q⟩ => ⟨n, e, h1, h2, h3, fun r c' a b d => h _ _ (q r c' a b d)⟩
theorem NetOk.stt {n : Nat} {ns : List Int} (h : NetOk n ns) (h1 : 1 ≤ n) (h2 : n ≤ 1000) : Stt ns := by
  obtain ⟨rfl, lo⟩ := h
  exact ⟨lo, h2, h1⟩
theorem m_law_any_net : ∀ args c Q, p_law_any_net args c Q → defF k_law_any_net b_law_any_net args c Q := by
  rintro _ c Q ⟨m, rfl, h1, h2, h3, q⟩
  show b_law_any_net _ ⟨[.bx, .sh (.int m)], c⟩
  unfold b_law_any_net
  rfl'
  refine c_take h1 (by omega) (by omega) fun r c1 r0 r1 hc1 => ?_
  rfl'
  refine c_take (by decide) (by decide) (by omega) fun s c2 s0 s1 hc2 => ?_
  rfl'
  refine ⟨1 + r, s, rfl, by omega, by omega, s0, s1, by omega, fun ns c3 hn hc3 => ?_⟩
  rfl'
  have hl := hn.1
  exact q ns c3 (hn.stt (by omega) (by omega)) (by omega) (by omega)
/-- _law_walk: _law_net, _law_who, _law_found, _law_here -/
def b_law_walk : DTS := (dSeq (dPar 2 true 3 false (dLst dNil) (dOp φIx (dVar 0) (dVar 1)))
  (dSeq (dWhile (dTest (dOp (φIn true) (dVar 3) (dVar 2))) (dSeq (dAppend 2 (dVar 3))
  (dSetG false 3 (dOp φIx (dVar 0) (dVar 3)))))
  (dRet (dVar 2))))
abbrev k_law_walk : Nat := 2
def p_law_walk : DSp := fun args c Q => ∃ (d : PyData) (ns : List Int) (p : Int), args = [.sh d, .sh (.int p)] ∧ PyData.its d = some (dI ns) ∧ Stt ns ∧ Per ns p ∧ Q (.nw (dI (routeF ns (gt ns p)))) c
theorem mon_law_walk : MonF p_law_walk := fun args c A B h ⟨d, ns, p, e, h1, h2, h3, q⟩ => ⟨d, ns, p, e, h1, h2, h3, h _ _ q⟩
theorem walk_loop {d : PyData} {ns : List Int} {x : SV} {Δ : DEnds} {c : Nat} (hd : PyData.its d = some (dI ns)) (hs : Stt ns) : ∀ (k : Nat) (acc : List Int) (z : Int), Per ns z → acc.Nodup → Low ns.length acc → ns.length < k + acc.length →
    (∀ y, Δ.nx ⟨[.sh d, x, .ow (dI (routeG ns k acc z)), y], c⟩) →
    whileN (dTest (dOp (φIn true) (dVar 3) (dVar 2))) (dSeq (dAppend 2 (dVar 3)) (dSetG false 3 (dOp φIx (dVar 0) (dVar 3)))) Δ (k + 1) ⟨[.sh d, x, .ow (dI acc), .sh (.int z)], c⟩
  | 0, acc, z, _, nd, la, hk, _ => by
    have := low_len ns.length acc nd la
    omega
  | k + 1, acc, z, hz, nd, la, hk, q => by
    unfold whileN
    unfold routeG at q
    have hl := low_len ns.length acc nd la
    have := hs.le
    rfl'
    refine φIn_dI (its_l _) ?_
    rfl'
    refine in_2 (fun hm => ?_) fun hm => ?_
    · rw [if_neg hm] at q
      refine sq_ ?_
      rfl'
      refine ⟨show (dI acc).length < 16777216 by rw [dI_len]; omega, ?_⟩
      rw [hd]
      refine ⟨_, atI_dI hz.1 hz.2, ?_⟩
      rw [dI_snoc]
      refine walk_loop hd hs k (acc ++ [z]) (gt ns z) (hs.gt hz) (Nodup.snoc nd hm) ?_ (by rw [List.length_append]; show _ < k + (acc.length + 1); omega) q
      intro y hy
      rcases List.mem_append.mp hy with h | h
      · exact la y h
      · rw [List.mem_singleton.mp h]; exact hz
    · rw [if_pos hm] at q
      exact q _
theorem m_law_walk : ∀ args c Q, p_law_walk args c Q → defF k_law_walk b_law_walk args c Q := by
  rintro _ c Q ⟨d, ns, p, rfl, h1, h2, h3, q⟩
  show b_law_walk _ ⟨[.sh d, .sh (.int p), .un, .un], c⟩
  unfold b_law_walk
  refine sq_ ?_
  rfl'
  rw [h1]
  refine ⟨_, atI_dI h3.1 h3.2, ?_⟩
  refine sq_ ?_
  rfl'
  refine ⟨ns.length + 1 + 1, walk_loop h1 h2 (ns.length + 1) [] (gt ns p) (h2.gt h3) List.nodup_nil (fun _ h => nomatch h) (by show _ < _ + 1 + 0; omega) fun y => ?_⟩
  rfl'
  exact q
/-- _law_ends: _law_net, _law_found, _law_who, _law_turn, _law_lap, _law_at -/
def b_law_ends : DTS := (dSeq (dSetG true 1 (dLst dNil))
  (dSeq (dFor (dRng1 (dCons (dCB φLen (dCons (dVar 0) dNil)) dNil)) (dName 2) (dSeq (dFor (dRng1 (dCons (dCB φLen (dCons (dVar 0) dNil)) dNil)) (dName 3) (dSetG false 2 (dOp φIx (dVar 0) (dVar 2))))
  (dSeq (dSetG false 4 (dCall p_law_walk (dCons (dVar 0) (dCons (dVar 2) dNil))))
  (dSeq (dSetG false 5 (dIndex (dVar 4) (dCB φMin (dCons (dVar 4) dNil))))
  (dAppend 1 (dCB φTuple (dCons (dOp φAdd (dSl φSl (dVar 4) (dPart (dVar 5)) dNoP) (dSl φSl (dVar 4) dNoP (dPart (dVar 5)))) dNil)))))))
  (dRet (dVar 1))))
abbrev k_law_ends : Nat := 5
def endsF (ns : List Int) : List (List Int) := (List.range ns.length).map fun i : Nat => ringF ns (i : Int)
def p_law_ends : DSp := fun args c Q => ∃ (d : PyData) (ns : List Int), args = [.sh d] ∧ PyData.its d = some (dI ns) ∧ Stt ns ∧ Q (.nw (dT (endsF ns))) c
theorem mon_law_ends : MonF p_law_ends := fun args c A B h ⟨d, ns, e, h1, h2, q⟩ => ⟨d, ns, e, h1, h2, h _ _ q⟩
/-- after as many steps as there are people one is on the ring: the way from there is the ring, turned -/
theorem ends_at {ns : List Int} (hs : Stt ns) {p : Int} (hp : Per ns p) {rs : List Int} (rt : Route ns (gt ns (itr ns p ns.length)) rs) : turnF rs = ringF ns p := by
  obtain ⟨c, cy, er, eroute⟩ := ringF_cyc hs.lo hp.1 hp.2
  have hb := begin_lt hs hp
  have hl := (route_len hs hp).2
  -- the person after so many steps is on the ring
  have e1 : itr ns p ns.length = itr ns (itr ns p (heightF ns p)) (ns.length - heightF ns p) := by
    rw [← itr_add]; congr 1; omega
  have hin : itr ns p ns.length ∈ itrs ns (itr ns p (heightF ns p)) c := by rw [e1]; exact cy.all _
  have hin2 : gt ns (itr ns p ns.length) ∈ itrs ns (itr ns p (heightF ns p)) c := by
    have := cy.all (ns.length - heightF ns p + 1)
    rw [show itr ns (itr ns p (heightF ns p)) (ns.length - heightF ns p + 1) = gt ns (itr ns p ns.length) by rw [e1]; rfl] at this
    exact this
  obtain ⟨cy2, mem2⟩ := cy.at hin2
  have r2 : Route ns (gt ns (itr ns p ns.length)) (itrs ns (gt ns (itr ns p ns.length)) c) := ⟨c, rfl, cy2.2.2, by rw [cy2.2.1]; exact itrs_mem.mpr ⟨0, cy2.1, rfl⟩⟩
  rw [rt.eq r2, er]
  exact Cyc.same cy2 cy (itrs_mem.mpr ⟨0, cy2.1, rfl⟩) hin2
theorem ends_in1 {d : PyData} {ns : List Int} {a e f : SV} {Δ : DEnds} {c : Nat} {p : DTS} (hp : p = dSetG false 2 (dOp φIx (dVar 0) (dVar 2))) (hd : PyData.its d = some (dI ns)) (hs : Stt ns) : ∀ (js : List PyData) (z : Int) (y : SV), Per ns z → (∀ y, Δ.nx ⟨[.sh d, a, .sh (.int (itr ns z js.length)), y, e, f], c⟩) →
    forD (dName 3) p Δ js ⟨[.sh d, a, .sh (.int z), y, e, f], c⟩
  | [], z, y, _, q => q y
  | j :: js, z, y, hz, q => by
    refine for_cons ?_
    subst hp
    rfl'
    rw [hd]
    refine ⟨_, atI_dI hz.1 hz.2, ?_⟩
    refine ends_in1 rfl hd hs js (gt ns z) _ (hs.gt hz) fun y => ?_
    have := q y
    rw [List.length_cons, itr_succ] at this
    exact this
theorem ends_loop {d : PyData} {ns : List Int} {Δ : DEnds} {c : Nat} {p : DTS} (hp : p = (dSeq (dFor (dRng1 (dCons (dCB φLen (dCons (dVar 0) dNil)) dNil)) (dName 3) (dSetG false 2 (dOp φIx (dVar 0) (dVar 2))))
  (dSeq (dSetG false 4 (dCall p_law_walk (dCons (dVar 0) (dCons (dVar 2) dNil))))
  (dSeq (dSetG false 5 (dIndex (dVar 4) (dCB φMin (dCons (dVar 4) dNil))))
  (dAppend 1 (dCB φTuple (dCons (dOp φAdd (dSl φSl (dVar 4) (dPart (dVar 5)) dNoP) (dSl φSl (dVar 4) dNoP (dPart (dVar 5)))) dNil))))))) (hd : PyData.its d = some (dI ns)) (hs : Stt ns) :
    ∀ (js : List Nat) (acc : List (List Int)) (x y e f : SV), (∀ j ∈ js, j < ns.length) → acc.length + js.length ≤ 1000 → (∀ x y e f, Δ.nx ⟨[.sh d, .ow (dT (acc ++ js.map fun i : Nat => ringF ns (i : Int))), x, y, e, f], c⟩) →
    forD (dName 2) p Δ (js.map fun i : Nat => .int (i : Nat)) ⟨[.sh d, .ow (dT acc), x, y, e, f], c⟩
  | [], acc, x, y, e, f, _, _, q => by
    have := q x y e f
    rw [List.map_nil, List.append_nil] at this
    exact this
  | j :: js, acc, x, y, e, f, hj, hl, q => by
    rw [List.length_cons] at hl
    have hp0 : Per ns (j : Int) := per_nat (hj j List.mem_cons_self)
    rw [List.map_cons]
    refine for_cons ?_
    rw [hp]
    refine sq_ ?_
    rfl'
    rw [hd]
    rfl'
    refine ⟨by rw [dI_len]; exact hs.rg, ⟨rfl, ?_⟩⟩
    refine ends_in1 rfl hd hs _ (j : Int) _ hp0 fun y => ?_
    refine sq_ ?_
    rfl'
    have hlen : (rgD 0 ((dI ns).length : Int).toNat).length = ns.length := by unfold rgD; rw [List.length_map, List.length_range, dI_len, Int.toNat_natCast]
    rw [hlen]
    have hq : Per ns (itr ns (j : Int) ns.length) := itr_low hs.lo hp0.1 hp0.2 _
    refine ⟨d, ns, _, rfl, hd, hs, hq, ?_⟩
    have rt := hs.rt (hs.gt hq)
    have et := ends_at hs hp0 rt
    have rl := route_len hs (hs.gt hq)
    have hle := hs.le
    generalize routeF ns (gt ns (itr ns (j : Int) ns.length)) = rs at rt et rl
    have hne : rs ≠ [] := List.length_pos_iff.mp rl.1
    rfl'
    refine sq_ ?_
    rfl'
    refine φMin_dI (its_l _) hne fun m hm => ?_
    rfl'
    rw [intsD_dI]
    refine ⟨hm.1, ?_⟩
    have em : m = minF rs := by
      have := minF_ok hne
      exact Int.le_antisymm (hm.2 _ this.1) (this.2 _ hm.1)
    rw [cutD_from _ _ (Int.natCast_nonneg _), cutD_to _ _ (Int.natCast_nonneg _), Int.toNat_natCast, dI_drop, dI_take, dI_app]
    have er : rs.drop (rs.idxOf m) ++ rs.take (rs.idxOf m) = ringF ns (j : Int) := by rw [← et, em]; rfl
    refine ⟨?_, ?_, ?_⟩
    · show _ ≤ 16777216
      rw [dI_len, dI_len, List.length_drop, List.length_take]; omega
    · show (dT acc).length < 16777216
      rw [List.length_map]; omega
    · rw [er]
      have ed : dT acc ++ [.tuple (dI (ringF ns (j : Int)))] = dT (acc ++ [ringF ns (j : Int)]) := by
        show acc.map _ ++ _ = (acc ++ _).map _
        rw [List.map_append]; rfl
      rw [ed, ← hp]
      refine ends_loop hp hd hs js (acc ++ [ringF ns (j : Int)]) _ _ _ _ (fun i hi => hj i (List.mem_cons_of_mem _ hi)) (by rw [List.length_append, List.length_singleton]; omega) fun x y e f => ?_
      have := q x y e f
      rw [List.map_cons] at this
      rw [List.append_assoc]; exact this
theorem m_law_ends : ∀ args c Q, p_law_ends args c Q → defF k_law_ends b_law_ends args c Q := by
  rintro _ c Q ⟨d, ns, rfl, h1, h2, q⟩
  show b_law_ends _ ⟨[.sh d, .un, .un, .un, .un, .un], c⟩
  unfold b_law_ends
  refine sq_ ?_
  rfl'
  refine sq_ ?_
  rfl'
  rw [h1]
  rfl'
  refine ⟨by rw [dI_len]; exact h2.rg, ⟨rfl, ?_⟩⟩
  rw [dI_len, Int.toNat_natCast, rg0]
  refine ends_loop (acc := []) rfl h1 h2 (List.range ns.length) _ _ _ _ (fun j hj => List.mem_range.mp hj) (by rw [List.length_range]; have := h2.le; show 0 + _ ≤ _; omega) fun x y e f => ?_
  rfl'
  exact q
end Lp

namespace Lp
open PySem PySem.Spec PyProof.Rows L2
local macro_rules | `(tactic| rfl') => `(tactic| try dsimp only [dVar_, gv_sh, gv_ow, gv_bx, gv_raw, gv_st, dC, dRaw, dOp, dUn, dTest, dTruth, dAnd, dOr, dNot, dYes, dIf, dAndV, dOrV, dNotV, dNotT, dChain, dNil, dCons, dTup, dLst, dats, dCB, dNoP, dPart, dSl, dNext, dBreak, dCont, dNever, dDrop, dRet, dRetN, dIfS, dSetG, dPar, dPar3, dAppend, dAppPop, dSetIx, dExt, dAug, dSet0, dSAdd, dSNotIn, dIter_, gi_l, gi_t, gi_b, dRng1, dRng2, dName, dGNil, dGCons, dGTup, dAsg, dFor, dWhile, dCall, dCallR, dArgs_, ga_f, ga_t, argsOf, dLc, wipeE, dListRg, dIndex, dSortSet, dSortSc, dEnum, dEnA, dZip, dIsi, dIsi2, isaT, φI, φB, φC, φNeg, add_i, add_l, add_t, mul_i, mul_l, φIx, sl_l, sl_t, eq_i, eq_s, eq_l, eq_t, eq_b, eq_n, φIsN, isN_n, isN_b, isN_i, isN_s, isN_l, isN_t, φLen, φList, φTuple, φAbs, φInt, φMax, φIsB, φIsNB, its_l, its_t, rd_sh, rd_nw, rd_br, rp_sh, rp_nw, rp_br, rp_bx, rp_raw, rp_sr, rr_sh, rr_nw, rr_br, ra_sh, ra_br, ra_bx, ra_raw, va_sh, va_nt, va_nf, va_raw, hb_n, hb_sh, hb_bx, hb_raw, hb_br, sh_n, sh_c, tr_n, tr_b, tr_i, tr_l, tr_t, ty_n, ty_b, ty_i, ty_s, ty_l, ty_t, if_ff, if_tt, Env.set, List.getElem?_cons_succ, List.getElem?_cons_zero, List.set_cons_succ, List.set_cons_zero, List.reverse_cons, List.reverse_nil, List.nil_append, List.cons_append, Option.bind_some, ite_true, ite_false])
end Lp

namespace Lp
open PySem PySem.Spec PyProof.Rows L2
local macro_rules | `(tactic| rfl') => `(tactic| try dsimp only [dVar_, gv_sh, gv_ow, gv_bx, gv_raw, gv_st, dC, dRaw, dOp, dUn, dTest, dTruth, dAnd, dOr, dNot, dYes, dIf, dAndV, dOrV, dNotV, dNotT, dChain, dNil, dCons, dTup, dLst, dats, dCB, dNoP, dPart, dSl, dNext, dBreak, dCont, dNever, dDrop, dRet, dRetN, dIfS, dSetG, dPar, dPar3, dAppend, dAppPop, dSetIx, dExt, dAug, dSet0, dSAdd, dSNotIn, dIter_, gi_l, gi_t, gi_b, dRng1, dRng2, dName, dGNil, dGCons, dGTup, dAsg, dFor, dWhile, dCall, dCallR, dArgs_, ga_f, ga_t, argsOf, dLc, wipeE, dListRg, dIndex, dSortSet, dSortSc, dEnum, dEnA, dZip, dIsi, dIsi2, isaT, φI, φB, φC, φNeg, add_i, add_l, add_t, mul_i, mul_l, φIx, sl_l, sl_t, eq_i, eq_s, eq_l, eq_t, eq_b, eq_n, φIsN, isN_n, isN_b, isN_i, isN_s, isN_l, isN_t, φLen, φList, φTuple, φAbs, φInt, φMax, φIsB, φIsNB, its_l, its_t, rd_sh, rd_nw, rd_br, rp_sh, rp_nw, rp_br, rp_bx, rp_raw, rp_sr, rr_sh, rr_nw, rr_br, ra_sh, ra_br, ra_bx, ra_raw, va_sh, va_nt, va_nf, va_raw, hb_n, hb_sh, hb_bx, hb_raw, hb_br, sh_n, sh_c, tr_n, tr_b, tr_i, tr_l, tr_t, ty_n, ty_b, ty_i, ty_s, ty_l, ty_t, if_ff, if_tt, Env.set, List.getElem?_cons_succ, List.getElem?_cons_zero, List.set_cons_succ, List.set_cons_zero, List.reverse_cons, List.reverse_nil, List.nil_append, List.cons_append, Option.bind_some, ite_true, ite_false])
inductive All2 {α β : Type} (P : α → β → Prop) : List α → List β → Prop
  | nil : All2 P [] []
  | cons {x : α} {y : β} {xs : List α} {ys : List β} : P x y → All2 P xs ys → All2 P (x :: xs) (y :: ys)
theorem All2.len {α β : Type} {P : α → β → Prop} : ∀ {xs : List α} {ys : List β}, All2 P xs ys → ys.length = xs.length
  | _, _, .nil => rfl
  | _, _, .cons _ r => by rw [List.length_cons, List.length_cons, r.len]
theorem All2.mem {α β : Type} {P : α → β → Prop} : ∀ {xs : List α} {ys : List β}, All2 P xs ys → ∀ y ∈ ys, ∃ x ∈ xs, P x y
  | _, _, .cons a r, y, h => by
    rcases List.mem_cons.mp h with rfl | h
    · exact ⟨_, List.mem_cons_self, a⟩
    · obtain ⟨x, hx, hp⟩ := r.mem y h
      exact ⟨x, List.mem_cons_of_mem _ hx, hp⟩
theorem All2.get {α β : Type} {P : α → β → Prop} : ∀ {xs : List α} {ys : List β}, All2 P xs ys → ∀ {i : Nat} {x : α}, xs[i]? = some x → ∃ y, ys[i]? = some y ∧ P x y
  | _, _, .nil, i, x, h => by simp at h
  | _, _, .cons a r, 0, x, h => by simp at h; subst h; exact ⟨_, rfl, a⟩
  | _, _, .cons a r, i + 1, x, h => by
    obtain ⟨y, h1, h2⟩ := r.get (i := i) (x := x) (by simpa using h)
    exact ⟨y, by simpa using h1, h2⟩
end Lp

namespace Lp
open PySem PySem.Spec PyProof.Rows L2
local macro_rules | `(tactic| rfl') => `(tactic| try dsimp only [dVar_, gv_sh, gv_ow, gv_bx, gv_raw, gv_exn, gv_st, dC, dRaw, dOp, dUn, dTest, dTruth, dAnd, dOr, dNot, dYes, dIf, dAndV, dOrV, dNotV, dNotT, dChain, dNil, dCons, dTup, dLst, dats, dCB, dNoP, dPart, dSl, dNext, dBreak, dCont, dNever, dDrop, dRet, dRetN, dIfS, dSetG, dPar, dPar3, dAppend, dAppPop, dSetIx, dExt, dAug, dSet0, dSAdd, dSNotIn, dIter_, gi_l, gi_t, gi_b, dRng1, dRng2, dName, dGNil, dGCons, dGTup, dAsg, dFor, dWhile, dCall, dCallR, dArgs_, ga_f, ga_t, argsOf, dLc, wipeE, dListRg, dIndex, dSortSet, dSortSc, dEnum, dEnA, dZip, dIsi, dIsi2, isaT, φI, φB, φC, φNeg, add_i, add_l, add_t, mul_i, mul_l, φIx, sl_l, sl_t, eq_i, eq_s, eq_l, eq_t, eq_b, eq_n, φIsN, isN_n, isN_b, isN_i, isN_s, isN_l, isN_t, φLen, φList, φTuple, φAbs, φInt, φMax, φIsB, φIsNB, its_l, its_t, rd_sh, rd_nw, rd_br, rp_sh, rp_nw, rp_br, rp_bx, rp_raw, rp_sr, rr_sh, rr_nw, rr_br, ra_sh, ra_br, ra_bx, ra_raw, va_sh, va_nt, va_nf, va_raw, hb_n, hb_sh, hb_bx, hb_raw, hb_br, sh_n, sh_c, tr_n, tr_b, tr_i, tr_l, tr_t, ty_n, ty_b, ty_i, ty_s, ty_l, ty_t, if_ff, if_tt, Env.set, List.getElem?_cons_succ, List.getElem?_cons_zero, List.set_cons_succ, List.set_cons_zero, List.reverse_cons, List.reverse_nil, List.nil_append, List.cons_append, Option.bind_some, ite_true, ite_false])
theorem lay_tupsG : ∀ a : List (List Int), PyData.canLayAll0 (dT a) = true
  | [] => by simp [PyData.canLayAll0]
  | x :: a => by
    show PyData.canLayAll0 (.tuple (dI x) :: dT a) = true
    simp only [PyData.canLayAll0, PyData.canLay0, lay_tupsG a, lay_ints, Bool.and_self]
theorem depth_tupsG : ∀ a : List (List Int), PyData.depthAll (dT a) ≤ 1
  | [] => by simp [PyData.depthAll]
  | x :: a => by
    have := depth_tupsG a
    show PyData.depthAll (.tuple (dI x) :: dT a) ≤ 1
    simp only [PyData.depthAll, PyData.depth, depth_ints]
    omega
theorem shG (a : List (List Int)) : SeqAt.shaped (.list (dT a)) = true := by
  unfold SeqAt.shaped
  have := depth_tupsG a
  simp only [PyData.canLay0, PyData.depth, lay_tupsG, Bool.true_and]
  exact decide_eq_true (by omega)
end Lp

namespace Lp
open PySem PySem.Spec PyProof.Rows L2
local macro_rules | `(tactic| rfl') => `(tactic| try dsimp only [dVar_, gv_sh, gv_ow, gv_bx, gv_raw, gv_exn, gv_st, dC, dRaw, dOp, dUn, dTest, dTruth, dAnd, dOr, dNot, dYes, dIf, dAndV, dOrV, dNotV, dNotT, dChain, dNil, dCons, dTup, dLst, dats, dCB, dNoP, dPart, dSl, dNext, dBreak, dCont, dNever, dDrop, dRet, dRetN, dIfS, dSetG, dPar, dPar3, dAppend, dAppPop, dSetIx, dExt, dAug, dSet0, dSAdd, dSNotIn, dIter_, gi_l, gi_t, gi_b, dRng1, dRng2, dName, dGNil, dGCons, dGTup, dAsg, dFor, dWhile, dCall, dCallR, dArgs_, ga_f, ga_t, argsOf, dLc, wipeE, dListRg, dIndex, dSortSet, dSortSc, dEnum, dEnA, dZip, dIsi, dIsi2, isaT, φI, φB, φC, φNeg, add_i, add_l, add_t, mul_i, mul_l, φIx, sl_l, sl_t, eq_i, eq_s, eq_l, eq_t, eq_b, eq_n, φIsN, isN_n, isN_b, isN_i, isN_s, isN_l, isN_t, φLen, φList, φTuple, φAbs, φInt, φMax, φIsB, φIsNB, its_l, its_t, rd_sh, rd_nw, rd_br, rp_sh, rp_nw, rp_br, rp_bx, rp_raw, rp_sr, rr_sh, rr_nw, rr_br, ra_sh, ra_br, ra_bx, ra_raw, va_sh, va_nt, va_nf, va_raw, hb_n, hb_sh, hb_bx, hb_raw, hb_br, sh_n, sh_c, tr_n, tr_b, tr_i, tr_l, tr_t, ty_n, ty_b, ty_i, ty_s, ty_l, ty_t, if_ff, if_tt, Env.set, List.getElem?_cons_succ, List.getElem?_cons_zero, List.set_cons_succ, List.set_cons_zero, List.reverse_cons, List.reverse_nil, List.nil_append, List.cons_append, Option.bind_some, ite_true, ite_false])
end Lp

namespace Lp
open PySem PySem.Spec PyProof.Rows L2
local macro_rules | `(tactic| rfl') => `(tactic| try dsimp only [dVar_, gv_sh, gv_ow, gv_bx, gv_raw, gv_st, dC, dRaw, dOp, dUn, dTest, dTruth, dAnd, dOr, dNot, dYes, dIf, dAndV, dOrV, dNotV, dNotT, dChain, dNil, dCons, dTup, dLst, dats, dCB, dNoP, dPart, dSl, dNext, dBreak, dCont, dNever, dDrop, dRet, dRetN, dIfS, dSetG, dPar, dPar3, dAppend, dAppPop, dSetIx, dExt, dAug, dSet0, dSAdd, dSNotIn, dIter_, gi_l, gi_t, gi_b, dRng1, dRng2, dName, dGNil, dGCons, dGTup, dAsg, dFor, dWhile, dCall, dCallR, dArgs_, ga_f, ga_t, argsOf, dLc, wipeE, dListRg, dIndex, dSortSet, dSortSc, dEnum, dEnA, dZip, dIsi, dIsi2, isaT, φI, φB, φC, φNeg, add_i, add_l, add_t, mul_i, mul_l, φIx, sl_l, sl_t, eq_i, eq_s, eq_l, eq_t, eq_b, eq_n, φIsN, isN_n, isN_b, isN_i, isN_s, isN_l, isN_t, φLen, φList, φTuple, φAbs, φInt, φMax, φIsB, φIsNB, its_l, its_t, rd_sh, rd_nw, rd_br, rp_sh, rp_nw, rp_br, rp_bx, rp_raw, rp_sr, rr_sh, rr_nw, rr_br, ra_sh, ra_br, ra_bx, ra_raw, va_sh, va_nt, va_nf, va_raw, hb_n, hb_sh, hb_bx, hb_raw, hb_br, sh_n, sh_c, tr_n, tr_b, tr_i, tr_l, tr_t, ty_n, ty_b, ty_i, ty_s, ty_l, ty_t, if_ff, if_tt, Env.set, List.getElem?_cons_succ, List.getElem?_cons_zero, List.set_cons_succ, List.set_cons_zero, List.reverse_cons, List.reverse_nil, List.nil_append, List.cons_append, Option.bind_some, ite_true, ite_false])
def closesB (gs : List Int) (i : Nat) : Bool := decide (gt gs ((routeF gs (i : Int)).getLastD 0) = (i : Int) ∧ minF (routeF gs (i : Int)) = (i : Int))
def closedF (gs : List Int) : List (List Int) := ((List.range gs.length).filter (closesB gs)).map fun i : Nat => routeF gs (i : Int)
theorem route_head {gs : List Int} (h : Stt gs) {p : Int} (hp : Per gs p) : ∃ r, routeF gs p = p :: r := by
  obtain ⟨L, e, nd, hin⟩ := h.rt hp
  have l1 := (route_len h hp).1
  rw [e, itrs_len] at l1
  obtain ⟨M, rfl⟩ : ∃ M, L = M + 1 := ⟨L - 1, by omega⟩
  refine ⟨(itrs gs p (M + 1)).tail, ?_⟩
  rw [e]
  unfold itrs
  rw [List.range_succ_eq_map]; rfl
/-- who comes back to themselves is on a ring -/
theorem back_cyc {ns : List Int} (h : Stt ns) {x : Int} (hx : Per ns x) {m : Nat} (hm : 0 < m) (e : itr ns x m = x) : ∃ c, Cyc ns x c := by
  obtain ⟨c, cy, er, _⟩ := ringF_cyc h.lo hx.1 hx.2
  have all : ∀ k, itr ns x (m * k) = x := by
    intro k
    induction k with
    | zero => rfl
    | succ k ih => rw [Nat.mul_succ, itr_add, ih, e]
  have hk := all (heightF ns x)
  obtain ⟨t, ht⟩ : ∃ t, m * heightF ns x = heightF ns x + t := ⟨m * heightF ns x - heightF ns x, by
    have : 1 * heightF ns x ≤ m * heightF ns x := Nat.mul_le_mul_right _ hm
    omega⟩
  rw [ht, itr_add] at hk
  have := cy.all t
  rw [hk] at this
  exact ⟨c, (cy.at this).1⟩
theorem cyc_route {ns : List Int} (h : Stt ns) {x : Int} (hx : Per ns x) {c : Nat} (cy : Cyc ns x c) : routeF ns x = itrs ns x c := by
  refine (h.rt hx).eq ⟨c, rfl, cy.2.2, ?_⟩
  rw [cy.2.1]
  exact itrs_mem.mpr ⟨0, cy.1, rfl⟩
theorem cyc_ring {ns : List Int} (h : Stt ns) {x : Int} (hx : Per ns x) {c : Nat} (cy : Cyc ns x c) : ringF ns x = turnF (itrs ns x c) := ring_at h.lo hx.1 hx.2 cy
theorem mem_turnF {ms : List Int} {z : Int} : z ∈ turnF ms ↔ z ∈ ms := by
  unfold turnF
  rw [List.mem_append, Or.comm, ← List.mem_append, List.take_append_drop]
theorem on_iff {ns : List Int} (h : Stt ns) {x : Int} (hx : Per ns x) : x ∈ ringF ns x ↔ ∃ c, Cyc ns x c := by
  constructor
  · intro hm
    obtain ⟨c, er, cy, _⟩ := headF_form h.lo hx.1 hx.2
    rw [er] at hm
    exact ⟨c, (cy.at hm).1⟩
  · rintro ⟨c, cy⟩
    rw [cyc_ring h hx cy, mem_turnF]
    exact itrs_mem.mpr ⟨0, cy.1, rfl⟩
theorem ring_per {ns : List Int} (h : Stt ns) {x z : Int} (hx : Per ns x) (hz : z ∈ ringF ns x) : Per ns z ∧ ringF ns z = ringF ns x ∧ z ∈ ringF ns z := by
  obtain ⟨c, er, cy, h0, h1⟩ := headF_form h.lo hx.1 hx.2
  have hz' := hz
  rw [er] at hz'
  obtain ⟨i, hi, rfl⟩ := itrs_mem.mp hz'
  have hp : Per ns (itr ns (headF ns x) i) := itr_low h.lo h0 h1 i
  obtain ⟨s, hs⟩ := ring_itr h.lo hx.1 hx.2 hz
  have e2 : ringF ns (itr ns (headF ns x) i) = ringF ns x := by rw [← hs]; exact ringF_itr h.lo hx.1 hx.2 s
  exact ⟨hp, e2, by rw [e2]; exact hz⟩
theorem getLastD_itrs {ns : List Int} {x : Int} {L : Nat} (h : 0 < L) : (itrs ns x L).getLastD 0 = itr ns x (L - 1) := by
  obtain ⟨M, rfl⟩ : ∃ M, L = M + 1 := ⟨L - 1, by omega⟩
  rw [itrs_succ]; simp
theorem closes_iff {gs : List Int} (h : Stt gs) {i : Nat} (hi : i < gs.length) : closesB gs i = true ↔ routeF gs (i : Int) = ringF gs (i : Int) ∧ ∃ c, Cyc gs (i : Int) c := by
  have hp := per_nat hi
  unfold closesB
  rw [decide_eq_true_iff]
  constructor
  · rintro ⟨h1, h2⟩
    obtain ⟨L, e, nd, hin⟩ := h.rt hp
    have l1 := (route_len h hp).1
    rw [e, itrs_len] at l1
    rw [e, getLastD_itrs (by omega)] at h1
    have e3 : itr gs (i : Int) L = (i : Int) := by
      have : L = L - 1 + 1 := by omega
      rw [this]; exact h1
    have cy : Cyc gs (i : Int) L := ⟨by omega, e3, by rw [← e]; exact nd⟩
    refine ⟨?_, L, cy⟩
    rw [cyc_ring h hp cy, turn_self cy, e]
    intro y hy
    rw [e] at h2
    have := (minF_ok (itrs_ne (ns := gs) (q := (i : Int)) (show 0 < L by omega))).2 y hy
    rw [h2] at this
    exact this
  · rintro ⟨h1, c, cy⟩
    have e := cyc_route h hp cy
    refine ⟨?_, ?_⟩
    · rw [e, getLastD_itrs cy.1]
      have e3 := cy.2.1
      have : c = c - 1 + 1 := by have := cy.1; omega
      rw [this] at e3
      exact e3
    · have hne : routeF gs (i : Int) ≠ [] := fun z => by
        have := (route_len h hp).1
        rw [z] at this; simp at this
      obtain ⟨m, c2, er, cy2, least, m0, m1⟩ := ringF_form h.lo hp.1 hp.2
      obtain ⟨r, hr⟩ := route_head h hp
      have em : m = (i : Int) := by
        have h3 : ringF gs (i : Int) = m :: (itrs gs m c2).tail := by
          rw [er]
          obtain ⟨M, rfl⟩ : ∃ M, c2 = M + 1 := ⟨c2 - 1, by have := cy2.1; omega⟩
          unfold itrs
          rw [List.range_succ_eq_map]; rfl
        rw [← h1, hr] at h3
        exact (List.cons.inj h3).1.symm
      have mm := minF_ok hne
      have a := mm.2 (i : Int) (by rw [hr]; exact List.mem_cons_self)
      have b := least _ (by rw [← h1]; exact mm.1)
      rw [em] at b
      exact Int.le_antisymm a b
theorem lex_head {a b : Int} {as bs : List Int} (h : a < b) : HT.lexLt (b :: bs) (a :: as) = false := by
  rw [HT.lexLt_cons, if_neg (by omega)]
  exact decide_eq_false (by omega)
theorem closed_rings {gs : List Int} (h : Stt gs) : RingsOf gs (closedF gs) := by
  have hh : ∀ i ∈ (List.range gs.length).filter (closesB gs), i < gs.length ∧ closesB gs i = true := fun i hi => by
    have := List.mem_filter.mp hi
    exact ⟨List.mem_range.mp this.1, this.2⟩
  have pw : ((List.range gs.length).filter (closesB gs)).Pairwise (· < ·) := List.Pairwise.filter _ List.pairwise_lt_range
  refine ⟨?_, ?_, fun k => ?_⟩
  · unfold closedF
    refine List.pairwise_map.mpr (List.Pairwise.imp_of_mem (fun {a b} ha hb hab => ?_) pw)
    obtain ⟨ra, ea⟩ := route_head h (per_nat (hh a ha).1)
    obtain ⟨rb, eb⟩ := route_head h (per_nat (hh b hb).1)
    rw [ea, eb]
    intro z
    have := (List.cons.inj z).1
    omega
  · unfold closedF
    refine List.pairwise_map.mpr (List.Pairwise.imp_of_mem (fun {a b} ha hb hab => ?_) pw)
    obtain ⟨ra, ea⟩ := route_head h (per_nat (hh a ha).1)
    obtain ⟨rb, eb⟩ := route_head h (per_nat (hh b hb).1)
    rw [ea, eb]
    exact lex_head (by omega)
  · unfold closedF
    rw [List.mem_map]
    constructor
    · rintro ⟨i, hi, rfl⟩
      obtain ⟨h1, h2⟩ := hh i hi
      exact ⟨i, h1, ((closes_iff h h1).mp h2).1.symm⟩
    · rintro ⟨j, hj, rfl⟩
      have hp := per_nat hj
      obtain ⟨m, c, er, cy, least, m0, m1⟩ := ringF_form h.lo hp.1 hp.2
      have hm : m.toNat < gs.length := by omega
      have em : ((m.toNat : Nat) : Int) = m := by omega
      have e1 : routeF gs m = itrs gs m c := cyc_route h ⟨m0, m1⟩ cy
      have e2 : ringF gs m = itrs gs m c := by rw [cyc_ring h ⟨m0, m1⟩ cy, turn_self cy (by rw [← er]; exact least)]
      refine ⟨m.toNat, List.mem_filter.mpr ⟨List.mem_range.mpr hm, (closes_iff h hm).mpr ?_⟩, ?_⟩
      · rw [em]
        exact ⟨by rw [e1, e2], c, cy⟩
      · rw [em, e1, er]
def missL (ns : List Int) : List Int → Nat → Option Nat
  | [], _ => none
  | z :: r, i => if z ∈ routeF ns (gt ns (i : Int)) then missL ns r (i + 1) else some i
def secondF (ns : List Int) : List Int → Option (Int × Int)
  | [] => none
  | h :: hs => match hs.find? (fun g => decide (ringF ns g = ringF ns h)) with
    | some g => some (h, g)
    | none => secondF ns hs
def brokenL (own : List Int) : List Int → Option (Int × Int)
  | e :: l :: r => if own.idxOf l < own.idxOf e then some (e, l) else brokenL own (l :: r)
  | _ => none
def brokenF (ns lap : List Int) : Option (Int × Int) := brokenL (routeF ns (gt ns (lap.headD 0))) lap.tail
def orderF (ns : List Int) : List (List Int) → PyData
  | [] => .none
  | lap :: r => match brokenF ns lap with
    | some (e, l) => .tuple [.str "order", .int (lap.headD 0), .int e, .int l]
    | none => orderF ns r
def obsF (ns gs : List Int) : PyData := match missL ns gs 0 with
  | some x => .tuple [.str "way", .int (x : Nat)]
  | none => match secondF ns ((closedF gs).map fun r => r.headD 0) with
    | some (x, y) => .tuple [.str "rings", .int x, .int y]
    | none => orderF ns (closedF gs)
theorem missL_none {ns : List Int} : ∀ (gs : List Int) (i : Nat), missL ns gs i = none ↔ ∀ j (h : j < gs.length), gs[j] ∈ routeF ns (gt ns ((i + j : Nat) : Int))
  | [], i => by simp [missL]
  | z :: r, i => by
    unfold missL
    by_cases hz : z ∈ routeF ns (gt ns (i : Int))
    · rw [if_pos hz, missL_none r (i + 1)]
      constructor
      · intro h j hj
        cases j with
        | zero => exact hz
        | succ j =>
          have := h j (by simpa using hj)
          rw [show i + (j + 1) = i + 1 + j by omega]
          simpa using this
      · intro h j hj
        have := h (j + 1) (by simpa using hj)
        rw [show i + (j + 1) = i + 1 + j by omega] at this
        simpa using this
    · rw [if_neg hz]
      constructor
      · intro h; cases h
      · intro h
        exact absurd (h 0 (by simp)) hz
theorem gt_nat {ns : List Int} {j : Nat} (h : j < ns.length) : gt ns (j : Int) = ns[j] := by
  unfold gt
  rw [Int.toNat_natCast, List.getD_eq_getElem?_getD, List.getElem?_eq_getElem h]; rfl
/-- all new pointers lie on the old ways -/
def OnWays (ns gs : List Int) : Prop := ∀ x, Per ns x → gt gs x ∈ routeF ns (gt ns x)
theorem miss_ways {ns gs : List Int} (hl : gs.length = ns.length) : missL ns gs 0 = none ↔ OnWays ns gs := by
  rw [missL_none]
  constructor
  · intro h x hx
    have := h x.toNat (by have := hx.1; have := hx.2; omega)
    rw [Nat.zero_add, ← gt_nat, show ((x.toNat : Nat) : Int) = x by have := hx.1; omega] at this
    exact this
  · intro h j hj
    rw [Nat.zero_add, ← gt_nat]
    exact h j (per_nat (by omega))
theorem way_itr {ns : List Int} (h : Stt ns) {x z : Int} (hx : Per ns x) (hz : z ∈ routeF ns (gt ns x)) : ∃ m, 0 < m ∧ z = itr ns x m := by
  obtain ⟨L, e, _, _⟩ := h.rt (h.gt hx)
  rw [e] at hz
  obtain ⟨i, _, rfl⟩ := itrs_mem.mp hz
  exact ⟨i + 1, by omega, (itr_succ ns x i).symm⟩
theorem ways_itr {ns gs : List Int} (h : Stt ns) (hw : OnWays ns gs) {x : Int} (hx : Per ns x) : ∀ k, ∃ m, k ≤ m ∧ itr gs x k = itr ns x m
  | 0 => ⟨0, Nat.le_refl _, rfl⟩
  | k + 1 => by
    obtain ⟨m, hm, e⟩ := ways_itr h hw hx k
    have hp : Per ns (itr ns x m) := itr_low h.lo hx.1 hx.2 m
    obtain ⟨t, ht, e2⟩ := way_itr h hp (hw _ hp)
    refine ⟨m + t, by omega, ?_⟩
    show gt gs (itr gs x k) = _
    rw [e, e2, itr_add]
/-- the rings of a goal on the ways are on the rings of the state -/
theorem ways_on {ns gs : List Int} (h : Stt ns) (hw : OnWays ns gs) {x : Int} (hx : Per ns x) {c : Nat} (cy : Cyc gs x c) : (∃ d, Cyc ns x d) ∧ ∀ z ∈ itrs gs x c, z ∈ ringF ns x := by
  obtain ⟨m, hm, e⟩ := ways_itr h hw hx c
  rw [cy.2.1] at e
  obtain ⟨d, cn⟩ := back_cyc h hx (show 0 < m by have := cy.1; omega) e.symm
  refine ⟨⟨d, cn⟩, fun z hz => ?_⟩
  obtain ⟨i, _, rfl⟩ := itrs_mem.mp hz
  obtain ⟨m2, _, e2⟩ := ways_itr h hw hx i
  rw [e2, cyc_ring h hx cn, mem_turnF]
  exact cn.all m2
theorem turnTo_cyc {ns : List Int} (h : Stt ns) {x : Int} (hx : Per ns x) {d : Nat} (cy : Cyc ns x d) : turnTo (ringF ns x) x = itrs ns x d := by
  obtain ⟨c, er, cm, m0, m1⟩ := headF_form h.lo hx.1 hx.2
  have hm := (on_iff h hx).mpr ⟨d, cy⟩
  have hm2 := hm
  rw [er] at hm2
  obtain ⟨i, hi, ei⟩ := itrs_mem.mp hm2
  have cx := (cm.at hm2).1
  have ed := cy.uniq cx
  have ix : (ringF ns x).idxOf x = i := by
    have h1 := idx_get hm
    have h2 := List.idxOf_lt_length_of_mem hm
    rw [er] at h1 h2 ⊢
    rw [itrs_len] at h2
    rw [itrs_get h2] at h1
    exact itrs_apart cm.2.2 h2 hi ((Option.some.inj h1).trans ei.symm)
  unfold turnTo
  rw [ix, er, ← cm.turn (Nat.le_of_lt hi), ei, ed]
theorem idx_itrs {ns : List Int} {x : Int} {c i : Nat} (nd : (itrs ns x c).Nodup) (hi : i < c) : (itrs ns x c).idxOf (itr ns x i) = i := by
  have hm : itr ns x i ∈ itrs ns x c := itrs_mem.mpr ⟨i, hi, rfl⟩
  have h1 := idx_get hm
  have h2 := List.idxOf_lt_length_of_mem hm
  rw [itrs_len] at h2
  rw [itrs_get h2] at h1
  exact itrs_apart nd h2 hi (Option.some.inj h1)
theorem own_cyc {ns : List Int} (h : Stt ns) {x : Int} (hx : Per ns x) {d : Nat} (cy : Cyc ns x d) : routeF ns (gt ns x) = itrs ns (gt ns x) d ∧ Cyc ns (gt ns x) d := by
  have hm : gt ns x ∈ itrs ns x d := cy.all 1
  have c2 := (cy.at hm).1
  exact ⟨cyc_route h (h.gt hx) c2, c2⟩
/-- in the order from x on, and on the way of x, others than x come alike -/
theorem idx_own {ns : List Int} (h : Stt ns) {x : Int} (hx : Per ns x) {d : Nat} (cy : Cyc ns x d) {e : Int} (he : e ∈ ringF ns x) (ne : e ≠ x) : (turnTo (ringF ns x) x).idxOf e = (routeF ns (gt ns x)).idxOf e + 1 := by
  obtain ⟨e1, c2⟩ := own_cyc h hx cy
  rw [cyc_ring h hx cy, mem_turnF] at he
  obtain ⟨i, hi, rfl⟩ := itrs_mem.mp he
  have i0 : i ≠ 0 := fun z => ne (by rw [z]; rfl)
  obtain ⟨j, rfl⟩ : ∃ j, i = j + 1 := ⟨i - 1, by omega⟩
  rw [turnTo_cyc h hx cy, idx_itrs cy.2.2 hi, e1, itr_succ, idx_itrs c2.2.2 (by omega)]
/-- at one ring of the state: K is kept as a ring, the others point at earlier ones -/
def LapOk (gs lap : List Int) : Prop := ∃ K T : List Int, K.Sublist lap ∧ K ≠ [] ∧ T.Nodup ∧ (∀ y, y ∈ T ↔ y ∈ lap) ∧ K = T.take K.length ∧
  (∀ i, i < K.length → gt gs (K.getD i 0) = K.getD ((i + 1) % K.length) 0) ∧ ∀ i, K.length ≤ i → i < T.length → ∃ j, j < i ∧ gt gs (T.getD i 0) = T.getD j 0
theorem LapOk.congr {gs gs' lap : List Int} (h : LapOk gs lap) (e : ∀ x ∈ lap, gt gs' x = gt gs x) : LapOk gs' lap := by
  obtain ⟨K, T, h1, h2, h3, h4, h5, h6, h7⟩ := h
  refine ⟨K, T, h1, h2, h3, h4, h5, fun i hi => ?_, fun i hi hj => ?_⟩
  · rw [← h6 i hi]
    refine e _ (h1.subset ?_)
    rw [List.getD_eq_getElem?_getD, List.getElem?_eq_getElem hi]; exact List.getElem_mem _
  · obtain ⟨j, hj1, hj2⟩ := h7 i hi hj
    refine ⟨j, hj1, ?_⟩
    rw [← hj2]
    refine e _ ((h4 _).mp ?_)
    rw [List.getD_eq_getElem?_getD, List.getElem?_eq_getElem hj]; exact List.getElem_mem _
structure Fut (ns gs : List Int) : Prop where
  st : Stt gs
  len : gs.length = ns.length
  off : ∀ x, Per ns x → x ∉ ringF ns x → gt gs x ∈ routeF ns (gt ns x)
  on : ∀ x, Per ns x → x ∈ ringF ns x → LapOk gs (ringF ns x)
theorem ring_way {ns : List Int} (h : Stt ns) {x z : Int} (hx : Per ns x) (hm : x ∈ ringF ns x) (hz : z ∈ ringF ns x) : z ∈ routeF ns (gt ns x) := by
  obtain ⟨c, cy⟩ := (on_iff h hx).mp hm
  obtain ⟨e1, c2⟩ := own_cyc h hx cy
  rw [cyc_ring h hx cy, mem_turnF] at hz
  rw [e1]
  exact ((cy.at (cy.all 1)).2 z).mpr hz
theorem getD_mem {l : List Int} {i : Nat} (h : i < l.length) : l.getD i 0 ∈ l := by
  rw [List.getD_eq_getElem?_getD, List.getElem?_eq_getElem h]; exact List.getElem_mem _
theorem LapOk.in {gs lap : List Int} (h : LapOk gs lap) {x : Int} (hx : x ∈ lap) : gt gs x ∈ lap := by
  obtain ⟨K, T, h1, h2, h3, h4, h5, h6, h7⟩ := h
  have hT := (h4 x).mpr hx
  obtain ⟨i, hi, rfl⟩ := List.mem_iff_getElem.mp hT
  have e : T.getD i 0 = T[i] := by rw [List.getD_eq_getElem?_getD, List.getElem?_eq_getElem hi]; rfl
  by_cases hk : i < K.length
  · have ek : K.getD i 0 = T[i] := by
      rw [h5, List.getD_eq_getElem?_getD, List.getElem?_take_of_lt hk, List.getElem?_eq_getElem hi]; rfl
    rw [← ek, h6 i hk]
    exact h1.subset (getD_mem (Nat.mod_lt _ (by omega)))
  · obtain ⟨j, hj, ej⟩ := h7 i (by omega) hi
    rw [← e, ej]
    exact (h4 _).mp (getD_mem (by omega))
theorem Fut.ways {ns gs : List Int} (h : Stt ns) (f : Fut ns gs) : OnWays ns gs := fun x hx => by
  by_cases hm : x ∈ ringF ns x
  · exact ring_way h hx hm ((f.on x hx hm).in hm)
  · exact f.off x hx hm
/-- from each member of the lap the new pointers lead into K -/
theorem lap_in {gs K T : List Int} (h5 : K = T.take K.length) (h7 : ∀ i, K.length ≤ i → i < T.length → ∃ j, j < i ∧ gt gs (T.getD i 0) = T.getD j 0) : ∀ (n i : Nat), i ≤ n → i < T.length → ∃ t, itr gs (T.getD i 0) t ∈ K := by
  intro n
  induction n with
  | zero =>
    intro i hi ht
    by_cases hk : i < K.length
    · refine ⟨0, ?_⟩
      show T.getD i 0 ∈ K
      have : T.getD i 0 = K.getD i 0 := by rw [h5, List.getD_eq_getElem?_getD, List.getD_eq_getElem?_getD, List.getElem?_take_of_lt hk]
      rw [this]; exact getD_mem hk
    · obtain ⟨j, hj, _⟩ := h7 i (by omega) ht
      omega
  | succ n ih =>
    intro i hi ht
    by_cases hk : i < K.length
    · refine ⟨0, ?_⟩
      show T.getD i 0 ∈ K
      have : T.getD i 0 = K.getD i 0 := by rw [h5, List.getD_eq_getElem?_getD, List.getD_eq_getElem?_getD, List.getElem?_take_of_lt hk]
      rw [this]; exact getD_mem hk
    · obtain ⟨j, hj, e⟩ := h7 i (by omega) ht
      obtain ⟨t, ht2⟩ := ih j (by omega) (by omega)
      exact ⟨t + 1, by rw [itr_succ, e]; exact ht2⟩
theorem kept_itr {gs K : List Int} (h2 : K ≠ []) (h6 : ∀ i, i < K.length → gt gs (K.getD i 0) = K.getD ((i + 1) % K.length) 0) {i : Nat} (hi : i < K.length) : ∀ t, itr gs (K.getD i 0) t = K.getD ((i + t) % K.length) 0
  | 0 => by rw [Nat.add_zero, Nat.mod_eq_of_lt hi]; rfl
  | t + 1 => by
    have hl : 0 < K.length := by omega
    show gt gs (itr gs (K.getD i 0) t) = _
    rw [kept_itr h2 h6 hi t, h6 _ (Nat.mod_lt _ hl), Nat.mod_add_mod, Nat.add_assoc]
/-- the ring of a kept one is the kept list, turned -/
theorem kept_cyc {gs K : List Int} (nd : K.Nodup) (h2 : K ≠ []) (h6 : ∀ i, i < K.length → gt gs (K.getD i 0) = K.getD ((i + 1) % K.length) 0) {i : Nat} (hi : i < K.length) : Cyc gs (K.getD i 0) K.length ∧ itrs gs (K.getD i 0) K.length = K.drop i ++ K.take i := by
  have e : itrs gs (K.getD i 0) K.length = K.drop i ++ K.take i := by
    refine List.ext_getElem? fun t => ?_
    by_cases ht : t < K.length
    · rw [itrs_get ht, kept_itr h2 h6 hi t, List.getElem?_append, List.length_drop]
      by_cases q : t < K.length - i
      · rw [if_pos q, List.getElem?_drop, Nat.mod_eq_of_lt (by omega), List.getD_eq_getElem?_getD, List.getElem?_eq_getElem (by omega)]; rfl
      · have e1 : (i + t) % K.length = t - (K.length - i) := by
          rw [Nat.mod_eq_sub_mod (by omega), Nat.mod_eq_of_lt (by omega)]; omega
        rw [if_neg q, List.getElem?_take_of_lt (by omega), e1, List.getD_eq_getElem?_getD, List.getElem?_eq_getElem (by omega)]; rfl
    · rw [List.getElem?_eq_none (by rw [itrs_len]; omega), List.getElem?_eq_none (by rw [List.length_append, List.length_drop, List.length_take]; omega)]
  refine ⟨⟨by omega, ?_, ?_⟩, e⟩
  · rw [kept_itr h2 h6 hi, Nat.add_mod_right, Nat.mod_eq_of_lt hi]
  · rw [e]
    refine (List.perm_append_comm.trans ?_).nodup_iff.mpr nd
    rw [List.take_append_drop]
/-- the new rings at one old ring -/
theorem Fut.ring {ns gs : List Int} (h : Stt ns) (f : Fut ns gs) {r : Int} (hr : Per ns r) (hm : r ∈ ringF ns r) : ∃ K : List Int, K.Sublist (ringF ns r) ∧ ∀ x c, x ∈ ringF ns r → Cyc gs x c → ∃ i, i < K.length ∧ K.getD i 0 = x ∧ itrs gs x c = K.drop i ++ K.take i ∧ c = K.length := by
  obtain ⟨K, T, h1, h2, h3, h4, h5, h6, h7⟩ := f.on r hr hm
  have nd : K.Nodup := by rw [h5]; exact h3.sublist (List.take_sublist _ _)
  refine ⟨K, h1, fun x c hx cy => ?_⟩
  obtain ⟨i, hi, ei⟩ := List.mem_iff_getElem.mp ((h4 x).mpr hx)
  have e : T.getD i 0 = x := by rw [List.getD_eq_getElem?_getD, List.getElem?_eq_getElem hi]; exact ei
  obtain ⟨t, ht⟩ := lap_in h5 h7 i i (Nat.le_refl _) hi
  rw [e] at ht
  obtain ⟨j, hj, ej⟩ := List.mem_iff_getElem.mp ht
  have ej2 : K.getD j 0 = itr gs x t := by rw [List.getD_eq_getElem?_getD, List.getElem?_eq_getElem hj]; exact ej
  obtain ⟨ck, ek⟩ := kept_cyc nd h2 h6 hj
  rw [ej2] at ck ek
  have cx := (cy.at (cy.all t)).1
  have hc := ck.uniq cx
  have xin : x ∈ itrs gs (itr gs x t) c := ((cy.at (cy.all t)).2 x).mpr (itrs_mem.mpr ⟨0, cy.1, rfl⟩)
  rw [← hc, ek] at xin
  have xk : x ∈ K := by
    rcases List.mem_append.mp xin with z | z
    · exact List.mem_of_mem_drop z
    · exact List.mem_of_mem_take z
  obtain ⟨a, ha, ea⟩ := List.mem_iff_getElem.mp xk
  have ea2 : K.getD a 0 = x := by rw [List.getD_eq_getElem?_getD, List.getElem?_eq_getElem ha]; exact ea
  obtain ⟨c3, e3⟩ := kept_cyc nd h2 h6 ha
  rw [ea2] at c3 e3
  refine ⟨a, ha, ea2, ?_, hc.symm⟩
  rw [← hc]; exact e3
theorem second_none {ns : List Int} : ∀ hs : List Int, hs.Nodup → (∀ a ∈ hs, ∀ b ∈ hs, ringF ns a = ringF ns b → a = b) → secondF ns hs = none
  | [], _, _ => rfl
  | h :: hs, nd, hq => by
    unfold secondF
    have n2 := List.nodup_cons.mp nd
    rw [List.find?_eq_none.mpr fun g hg => by
      rw [decide_eq_true_iff]
      intro e
      exact n2.1 (by rw [← hq g (List.mem_cons_of_mem _ hg) h List.mem_cons_self e]; exact hg)]
    exact second_none hs n2.2 fun a ha b hb => hq a (List.mem_cons_of_mem _ ha) b (List.mem_cons_of_mem _ hb)
theorem sub_idx : ∀ (own : List Int) (e l : Int), own.Nodup → [e, l].Sublist own → own.idxOf e < own.idxOf l
  | [], e, l, _, h => by cases h
  | x :: own, e, l, nd, h => by
    have n2 := List.nodup_cons.mp nd
    cases h with
    | cons _ h =>
      have he : e ∈ own := h.subset List.mem_cons_self
      have hl : l ∈ own := h.subset (List.mem_cons_of_mem _ List.mem_cons_self)
      have := sub_idx own e l n2.2 h
      rw [List.idxOf_cons, List.idxOf_cons, beq_eq_false_iff_ne.mpr (fun z => n2.1 (by rw [z]; exact he)), beq_eq_false_iff_ne.mpr (fun z => n2.1 (by rw [z]; exact hl))]
      simpa using this
    | cons_cons _ h =>
      have hl : l ∈ own := h.subset List.mem_cons_self
      rw [List.idxOf_cons, List.idxOf_cons, beq_self_eq_true, beq_eq_false_iff_ne.mpr (fun z => n2.1 (by rw [z]; exact hl))]
      simp
theorem broken_none {own : List Int} (nd : own.Nodup) : ∀ ls : List Int, ls.Sublist own → brokenL own ls = none
  | [], _ => rfl
  | [_], _ => rfl
  | e :: l :: r, h => by
    have h1 : [e, l].Sublist own := (List.Sublist.cons_cons e (List.Sublist.cons_cons l (List.nil_sublist r))).trans h
    have := sub_idx own e l nd h1
    unfold brokenL
    rw [if_neg (by omega)]
    exact broken_none nd (l :: r) ((List.sublist_cons_self e (l :: r)).trans h)
theorem orderF_none {ns : List Int} : ∀ RS : List (List Int), (∀ lap ∈ RS, brokenF ns lap = none) → orderF ns RS = .none
  | [], _ => rfl
  | lap :: r, h => by
    unfold orderF
    rw [h lap List.mem_cons_self]
    exact orderF_none r fun l hl => h l (List.mem_cons_of_mem _ hl)
theorem closed_mem {gs : List Int} (h : Stt gs) {lap : List Int} (hl : lap ∈ closedF gs) : ∃ x c, Per gs x ∧ Cyc gs x c ∧ lap = itrs gs x c ∧ lap.headD 0 = x ∧ lap = ringF gs x := by
  unfold closedF at hl
  obtain ⟨i, hi, rfl⟩ := List.mem_map.mp hl
  have q := List.mem_filter.mp hi
  have hi2 := List.mem_range.mp q.1
  obtain ⟨e1, c, cy⟩ := (closes_iff h hi2).mp q.2
  have hp := per_nat hi2
  obtain ⟨r, er⟩ := route_head h hp
  exact ⟨i, c, hp, cy, cyc_route h hp cy, by rw [er]; rfl, e1⟩
theorem closed_heads {gs : List Int} (h : Stt gs) : ((closedF gs).map fun r => r.headD 0).Nodup := by
  unfold closedF
  rw [List.map_map]
  have pw : ((List.range gs.length).filter (closesB gs)).Pairwise (· < ·) := List.Pairwise.filter _ List.pairwise_lt_range
  refine List.pairwise_map.mpr (List.Pairwise.imp_of_mem (fun {a b} ha hb hab => ?_) pw)
  have la := List.mem_range.mp (List.mem_filter.mp ha).1
  have lb := List.mem_range.mp (List.mem_filter.mp hb).1
  obtain ⟨ra, ea⟩ := route_head h (per_nat la)
  obtain ⟨rb, eb⟩ := route_head h (per_nat lb)
  show (routeF gs (a : Int)).headD 0 ≠ (routeF gs (b : Int)).headD 0
  rw [ea, eb]
  show (a : Int) ≠ (b : Int)
  omega
/-- a list that is cut at one of its members, and a part of it likewise -/
theorem sub_turn {lap : List Int} : ∀ {K : List Int}, lap.Nodup → K.Sublist lap → ∀ i, i < K.length → (K.drop (i + 1) ++ K.take i).Sublist (lap.drop (lap.idxOf (K.getD i 0) + 1) ++ lap.take (lap.idxOf (K.getD i 0))) := by
  intro K nd h i hi
  have hx : K.getD i 0 = K[i] := by rw [List.getD_eq_getElem?_getD, List.getElem?_eq_getElem hi]; rfl
  have eK : K = K.take i ++ K[i] :: K.drop (i + 1) := by rw [List.getElem_cons_drop, List.take_append_drop]
  rw [hx]
  rw [eK] at h
  obtain ⟨L1, L2, eL, s1, s2⟩ := List.append_sublist_iff.mp h
  obtain ⟨M1, M2, eM, s3, s4⟩ := List.cons_sublist_iff.mp s2
  obtain ⟨A, B, eA⟩ := List.append_of_mem s3
  have el : lap = (L1 ++ A) ++ K[i] :: (B ++ M2) := by rw [eL, eM, eA]; simp
  have nin : K[i] ∉ L1 ++ A := fun z => by
    rw [el] at nd
    have := (List.nodup_append.mp nd).2.2 _ z _ List.mem_cons_self
    exact this rfl
  have ix : lap.idxOf K[i] = (L1 ++ A).length := by
    rw [el, List.idxOf_append, if_neg nin, List.idxOf_cons_self, Nat.zero_add]
  rw [ix]
  have t1 : lap.take (L1 ++ A).length = L1 ++ A := by rw [el, List.take_left]
  have t2 : lap.drop ((L1 ++ A).length + 1) = B ++ M2 := by
    rw [el, List.drop_append, List.drop_eq_nil_of_le (by omega), Nat.add_sub_cancel_left]; rfl
  rw [t1, t2]
  exact (s4.trans (List.sublist_append_right B M2)).append (s1.trans (List.sublist_append_left L1 A))
theorem fut_clear {ns gs : List Int} (h : Stt ns) (f : Fut ns gs) : obsF ns gs = .none := by
  have hw := f.ways h
  have sg := f.st
  have pg : ∀ {x : Int}, Per gs x → Per ns x := fun {x} hx => ⟨hx.1, by rw [← f.len]; exact hx.2⟩
  unfold obsF
  rw [(miss_ways f.len).mpr hw]
  show (match secondF ns ((closedF gs).map fun r => r.headD 0) with | some (x, y) => PyData.tuple [.str "rings", .int x, .int y] | none => orderF ns (closedF gs)) = .none
  rw [second_none _ (closed_heads sg) ?_]
  · show orderF ns (closedF gs) = .none
    refine orderF_none _ fun lap hl => ?_
    obtain ⟨x, c, hx, cy, el, eh, _⟩ := closed_mem sg hl
    obtain ⟨⟨d, cn⟩, _⟩ := ways_on h hw (pg hx) cy
    have hm := (on_iff h (pg hx)).mpr ⟨d, cn⟩
    obtain ⟨K, h1, h2⟩ := f.ring h (pg hx) hm
    obtain ⟨i, hi, ex, e2, _⟩ := h2 x c hm cy
    unfold brokenF
    rw [eh]
    obtain ⟨e1, c2⟩ := own_cyc h (pg hx) cn
    have nd2 : (routeF ns (gt ns x)).Nodup := by rw [e1]; exact c2.2.2
    refine broken_none nd2 _ ?_
    obtain ⟨q, er, cm, q0, q1⟩ := headF_form h.lo (pg hx).1 (pg hx).2
    have ndr : (ringF ns x).Nodup := by rw [er]; exact cm.2.2
    have st := sub_turn ndr h1 i hi
    rw [ex] at st
    have et : lap.tail = K.drop (i + 1) ++ K.take i := by
      rw [el, e2, ← List.getElem_cons_drop (h := hi)]; rfl
    rw [et]
    refine st.trans ?_
    have tt := turnTo_cyc h (pg hx) cn
    have ix := List.idxOf_lt_length_of_mem hm
    unfold turnTo at tt
    rw [← List.getElem_cons_drop (h := ix)] at tt
    have tt2 := congrArg List.tail tt
    have e5 : (itrs ns x d).tail = (itrs ns (gt ns x) d).take (d - 1) := by
      obtain ⟨M, rfl⟩ : ∃ M, d = M + 1 := ⟨d - 1, by have := cn.1; omega⟩
      rw [Nat.add_sub_cancel, itrs_succ ns (gt ns x) M, List.take_left' (itrs_len ns (gt ns x) M)]
      unfold itrs
      rw [List.range_succ_eq_map]
      show List.map _ (List.map _ _) = _
      rw [List.map_map]
      exact List.map_congr_left fun k _ => itr_succ ns x k
    rw [e5] at tt2
    have tt3 : (ringF ns x).drop ((ringF ns x).idxOf x + 1) ++ (ringF ns x).take ((ringF ns x).idxOf x) = (itrs ns (gt ns x) d).take (d - 1) := tt2
    rw [tt3, e1]
    exact List.take_sublist _ _
  · intro a ha b hb e
    obtain ⟨la, hla, rfl⟩ := List.mem_map.mp ha
    obtain ⟨lb, hlb, rfl⟩ := List.mem_map.mp hb
    obtain ⟨x, c, hx, cy, el, eh, er⟩ := closed_mem sg hla
    obtain ⟨y, c', hy, cy', el', eh', er'⟩ := closed_mem sg hlb
    simp only [eh, eh'] at e ⊢
    obtain ⟨⟨d, cn⟩, _⟩ := ways_on h hw (pg hx) cy
    obtain ⟨⟨d', cn'⟩, _⟩ := ways_on h hw (pg hy) cy'
    have hm := (on_iff h (pg hx)).mpr ⟨d, cn⟩
    have hm' := (on_iff h (pg hy)).mpr ⟨d', cn'⟩
    obtain ⟨K, h1, h2⟩ := f.ring h (pg hx) hm
    obtain ⟨i, hi, ex, e2, k1⟩ := h2 x c hm cy
    obtain ⟨j, hj, ey, e3, k2⟩ := h2 y c' (by rw [e]; exact hm') cy'
    have yin : y ∈ itrs gs x c := by
      rw [e2]
      have : y ∈ K := by rw [← ey]; exact getD_mem hj
      rw [← List.take_append_drop i K] at this
      rcases List.mem_append.mp this with z | z
      · exact List.mem_append_right _ z
      · exact List.mem_append_left _ z
    have es : ringF gs x = ringF gs y := by
      rw [cyc_ring sg hx cy, cyc_ring sg hy cy']
      exact cy.same cy' yin (itrs_mem.mpr ⟨0, cy'.1, rfl⟩)
    rw [← eh, ← eh', er, er', es]
/-- the state itself -/
theorem Fut.self {ns : List Int} (h : Stt ns) : Fut ns ns := by
  refine ⟨h, rfl, fun x hx _ => ?_, fun x hx hm => ?_⟩
  · obtain ⟨r, e⟩ := route_head h (h.gt hx)
    rw [e]; exact List.mem_cons_self
  · obtain ⟨c, er, cy, h0, h1⟩ := headF_form h.lo hx.1 hx.2
    have hl : (ringF ns x).length = c := by rw [er, itrs_len]
    have gD : ∀ i, i < c → (ringF ns x).getD i 0 = itr ns (headF ns x) i := fun i hi => by
      rw [er, List.getD_eq_getElem?_getD, itrs_get hi]; rfl
    have c0 := cy.1
    refine ⟨ringF ns x, ringF ns x, List.Sublist.refl _, ring_ne h hx, by rw [er]; exact cy.2.2, fun _ => Iff.rfl, by rw [List.take_length], fun i hi => ?_, fun i hi hj => by omega⟩
    rw [hl] at hi ⊢
    rw [gD i hi, gD _ (Nat.mod_lt _ c0)]
    show itr ns (headF ns x) (i + 1) = _
    by_cases q : i + 1 = c
    · rw [q, Nat.mod_self, cy.2.1]; rfl
    · rw [Nat.mod_eq_of_lt (by omega)]
end Lp

namespace Lp
open PySem PySem.Spec PyProof.Rows L2
local macro_rules | `(tactic| rfl') => `(tactic| try dsimp only [dVar_, gv_sh, gv_ow, gv_bx, gv_raw, gv_exn, gv_st, dC, dRaw, dOp, dUn, dTest, dTruth, dAnd, dOr, dNot, dYes, dIf, dAndV, dOrV, dNotV, dNotT, dChain, dNil, dCons, dTup, dLst, dats, dCB, dNoP, dPart, dSl, dNext, dBreak, dCont, dNever, dDrop, dRet, dRetN, dIfS, dSetG, dPar, dPar3, dAppend, dAppPop, dSetIx, dExt, dAug, dSet0, dSAdd, dSNotIn, dIter_, gi_l, gi_t, gi_b, dRng1, dRng2, dName, dGNil, dGCons, dGTup, dAsg, dFor, dWhile, dCall, dCallR, dArgs_, ga_f, ga_t, argsOf, dLc, wipeE, dListRg, dIndex, dSortSet, dSortSc, dEnum, dEnA, dZip, dIsi, dIsi2, isaT, φI, φB, φC, φNeg, add_i, add_l, add_t, mul_i, mul_l, φIx, sl_l, sl_t, eq_i, eq_s, eq_l, eq_t, eq_b, eq_n, φIsN, isN_n, isN_b, isN_i, isN_s, isN_l, isN_t, φLen, φList, φTuple, φAbs, φInt, φMax, φIsB, φIsNB, its_l, its_t, rd_sh, rd_nw, rd_br, rp_sh, rp_nw, rp_br, rp_bx, rp_raw, rp_sr, rr_sh, rr_nw, rr_br, ra_sh, ra_br, ra_bx, ra_raw, va_sh, va_nt, va_nf, va_raw, hb_n, hb_sh, hb_bx, hb_raw, hb_br, sh_n, sh_c, tr_n, tr_b, tr_i, tr_l, tr_t, ty_n, ty_b, ty_i, ty_s, ty_l, ty_t, if_ff, if_tt, Env.set, List.getElem?_cons_succ, List.getElem?_cons_zero, List.set_cons_succ, List.set_cons_zero, List.reverse_cons, List.reverse_nil, List.nil_append, List.cons_append, Option.bind_some, ite_true, ite_false])
theorem IL_app (ns : List Int) (z : Int) : (IL ns) ++ [.int z] = IL (ns ++ [z]) := by show _ = List.map _ _; rw [List.map_append]; rfl
abbrev kvG (G : List (Int × Addr)) : List (Key × V) := G.map fun g => (Sum.inl g.1, V.ref g.2)
theorem vG_some : ∀ (G : List (Int × Addr)) (m : Int) (v : V), valV (kvG G) (.inl m) = some v → ∃ a, v = .ref a ∧ (m, a) ∈ G
  | [], m, v, h => by cases h
  | g :: G, m, v, h => by
    by_cases e : g.1 = m
    · have : valV (kvG (g :: G)) (.inl m) = some (V.ref g.2) := valV_pos (congrArg Sum.inl e)
      rw [this] at h
      cases h
      exact ⟨g.2, rfl, by rw [← e]; exact List.mem_cons_self⟩
    · have : valV (kvG (g :: G)) (.inl m) = valV (kvG G) (.inl m) := valV_neg (fun z => e (Sum.inl.inj z))
      rw [this] at h
      obtain ⟨a, ea, ha⟩ := vG_some G m v h
      exact ⟨a, ea, List.mem_cons_of_mem _ ha⟩
theorem vG_none : ∀ (G : List (Int × Addr)) (m : Int), valV (kvG G) (.inl m) = none → m ∉ G.map (·.1)
  | [], m, _ => fun h => nomatch h
  | g :: G, m, h => by
    by_cases e : g.1 = m
    · have : valV (kvG (g :: G)) (.inl m) = some (V.ref g.2) := valV_pos (congrArg Sum.inl e)
      rw [this] at h; cases h
    · have : valV (kvG (g :: G)) (.inl m) = valV (kvG G) (.inl m) := valV_neg (fun z => e (Sum.inl.inj z))
      rw [this] at h
      intro q
      rcases List.mem_cons.mp q with q | q
      · exact e q.symm
      · exact vG_none G m h q
theorem vG_at : ∀ (G : List (Int × Addr)) (m : Int) (a : Addr), (G.map (·.1)).Nodup → (m, a) ∈ G → valV (kvG G) (.inl m) = some (.ref a)
  | g :: G, m, a, nd, h => by
    have q := List.nodup_cons.mp nd
    rcases List.mem_cons.mp h with e | e
    · rw [← e]; exact valV_pos rfl
    · have ne : ¬ g.1 = m := fun z => q.1 (List.mem_map.mpr ⟨(m, a), e, z.symm⟩)
      have : valV (kvG (g :: G)) (.inl m) = valV (kvG G) (.inl m) := valV_neg (fun z => ne (Sum.inl.inj z))
      rw [this]
      exact vG_at G m a q.2 e
theorem nd_snd : ∀ (G : List (Int × Addr)) {x y : Int} {a : Addr}, (G.map (·.2)).Nodup → (x, a) ∈ G → (y, a) ∈ G → x = y
  | g :: G, x, y, a, nd, h1, h2 => by
    have q := List.nodup_cons.mp nd
    rcases List.mem_cons.mp h1 with e1 | e1
    · rcases List.mem_cons.mp h2 with e2 | e2
      · exact congrArg Prod.fst (e1.trans e2.symm)
      · exact absurd (List.mem_map.mpr ⟨(y, a), e2, by rw [← e1]⟩) q.1
    · rcases List.mem_cons.mp h2 with e2 | e2
      · exact absurd (List.mem_map.mpr ⟨(x, a), e1, by rw [← e2]⟩) q.1
      · exact nd_snd G q.2 e1 e2
structure GR (H H3 : Hp) (d : Addr) (ns : List Int) (G : List (Int × Addr)) (i : Nat) : Prop where
  hd : H3 d = some (.dK (kvG G))
  n1 : (G.map (·.1)).Nodup
  n2 : (G.map (·.2)).Nodup
  ls : ∀ g ∈ G, H3 g.2 = some (.lst (IL (compH ns g.1 i))) ∧ H g.2 = none
  ks : ∀ m, m ∈ G.map (·.1) ↔ ∃ j : Nat, j < i ∧ headF ns (j : Int) = m
  len : G.length ≤ i
theorem GR.mono {H H3 H4 : Hp} {d : Addr} {ns : List Int} {G : List (Int × Addr)} {i : Nat} (r : GR H H3 d ns G i) (s : Same H3 H4) : GR H H4 d ns G i :=
  ⟨s _ _ r.hd, r.n1, r.n2, fun g hg => ⟨s _ _ (r.ls g hg).1, (r.ls g hg).2⟩, r.ks, r.len⟩
/-- a person whose ring has a group already -/
theorem GR.old {H H3 : Hp} {d a : Addr} {ns : List Int} {G : List (Int × Addr)} {i : Nat} (r : GR H H3 d ns G i) (ha : (headF ns (i : Int), a) ∈ G) : GR H (upd H3 a (.lst (IL (compH ns (headF ns (i : Int)) i) ++ [.int (i : Int)]))) d ns G (i + 1) := by
  have hl := (r.ls _ ha).1
  refine ⟨by rw [upd_ne (fun z => by rw [← z, r.hd] at hl; cases hl)]; exact r.hd, r.n1, r.n2, fun g hg => ⟨?_, (r.ls g hg).2⟩, fun m => ?_, Nat.le_succ_of_le r.len⟩
  · by_cases e : g.2 = a
    · have e1 : g.1 = headF ns (i : Int) := nd_snd G r.n2 (a := a) (by rw [← e]; exact hg) ha
      rw [e, upd_same, e1, compH_succ, if_pos rfl, IL_app]
    · have e1 : ¬ headF ns (i : Int) = g.1 := fun z => by
        have v1 := vG_at G _ _ r.n1 ha
        have v2 := vG_at G g.1 g.2 r.n1 hg
        rw [← z, v1] at v2
        exact e (by have := V.ref.inj (Option.some.inj v2); exact this.symm)
      rw [upd_ne e, compH_succ, if_neg e1]
      exact (r.ls g hg).1
  · rw [r.ks m]
    constructor
    · rintro ⟨j, hj, e⟩; exact ⟨j, by omega, e⟩
    · rintro ⟨j, hj, e⟩
      by_cases z : j = i
      · subst z
        exact (r.ks m).mp (List.mem_map.mpr ⟨_, ha, e⟩)
      · exact ⟨j, by omega, e⟩
/-- a person whose ring has none yet -/
theorem GR.new {H H3 : Hp} {d l : Addr} {ns : List Int} {G : List (Int × Addr)} {i : Nat} (r : GR H H3 d ns G i) (nl : H3 l = none) (nH : H l = none) (hv : valV (kvG G) (.inl (headF ns (i : Int))) = none) :
    GR H (upd (upd (upd H3 l (.lst [])) d (.dK (putK (kvG G) (.inl (headF ns (i : Int))) (.ref l)))) l (.lst ([] ++ [.int (i : Int)]))) d ns (G ++ [(headF ns (i : Int), l)]) (i + 1) := by
  have no := vG_none G _ hv
  have dl : d ≠ l := ne_of_none r.hd nl
  have out : ∀ g ∈ G, g.2 ≠ l := fun g hg z => by have := (r.ls g hg).1; rw [z, nl] at this; cases this
  refine ⟨?_, ?_, ?_, fun g hg => ?_, fun m => ?_, by rw [List.length_append]; have := r.len; show _ + 1 ≤ _; omega⟩
  · rw [upd_ne dl, upd_same, putK_new _ hv]
    show _ = some (HO.dK (List.map _ _))
    rw [List.map_append]; rfl
  · rw [List.map_append]
    refine List.nodup_append.mpr ⟨r.n1, List.nodup_cons.mpr ⟨List.not_mem_nil, List.nodup_nil⟩, fun x hx y hy => ?_⟩
    have ey : y = headF ns (i : Int) := List.mem_singleton.mp hy
    rw [ey]
    exact fun z => no (z ▸ hx)
  · rw [List.map_append]
    refine List.nodup_append.mpr ⟨r.n2, List.nodup_cons.mpr ⟨List.not_mem_nil, List.nodup_nil⟩, fun x hx y hy => ?_⟩
    have ey : y = l := List.mem_singleton.mp hy
    obtain ⟨g, hg, e⟩ := List.mem_map.mp hx
    rw [ey, ← e]
    exact out g hg
  · rcases List.mem_append.mp hg with h | h
    · have q := (r.ls g h).1
      have e1 : ¬ headF ns (i : Int) = g.1 := fun z => no (List.mem_map.mpr ⟨g, h, z.symm⟩)
      refine ⟨?_, (r.ls g h).2⟩
      rw [upd_ne (out g h), upd_ne (fun z => by rw [z, r.hd] at q; cases q), upd_ne (out g h), compH_succ, if_neg e1]
      exact q
    · have e := List.mem_singleton.mp h
      subst e
      refine ⟨?_, nH⟩
      have e0 : compH ns (headF ns (i : Int)) i = [] := by
        cases q : compH ns (headF ns (i : Int)) i with
        | nil => rfl
        | cons z t =>
          obtain ⟨j, hj, e, _⟩ := compH_mem.mp (q ▸ List.mem_cons_self : z ∈ compH ns (headF ns (i : Int)) i)
          exact absurd ((r.ks _).mpr ⟨j, hj, e⟩) no
      rw [upd_same, compH_succ, if_pos rfl, e0]; rfl
  · rw [List.map_append, List.mem_append, r.ks m]
    constructor
    · rintro (⟨j, hj, e⟩ | h)
      · exact ⟨j, by omega, e⟩
      · exact ⟨i, by omega, (List.mem_singleton.mp h).symm⟩
    · rintro ⟨j, hj, e⟩
      by_cases z : j = i
      · subst z
        exact .inr (List.mem_singleton.mpr e.symm)
      · exact .inl ⟨j, by omega, e⟩
def p_components : DSp := fun args c Q => ∃ (d : PyData) (ns : List Int), args = [.sh d] ∧ PyData.its d = some (dI ns) ∧ Stt ns ∧ ns.length ≤ 60 ∧ ∀ CS, CompsOf ns CS → Q (.nw (dT CS)) c
theorem mon_components : MonF p_components := fun args c A B h ⟨d, ns, e, h1, h2, h3, q⟩ => ⟨d, ns, e, h1, h2, h3, fun CS k => h _ _ (q CS k)⟩
def spCompsS : Sp := fun vs H Q _ => ∃ (L : Hp) (v : V) (d : PyData) (ns : List Int), vs = [v] ∧ Same L H ∧ DV L v d ∧ PyData.its d = some (dI ns) ∧ Stt ns ∧ ns.length ≤ 60 ∧
  ∀ H' r (T : List (Addr × List Int)), Same H H' → H r = none → H' r = some (.lst (RL T)) → (∀ p ∈ T, Sol H' p.1 (IL p.2) ∧ H p.1 = none) → CompsOf ns (T.map (·.2)) → Q (.ref r) H'
open Classical in
theorem comps_imp {vs : List V} {H : Hp} {Q : VK} {E : XK} (h : spD 1 p_components vs H Q E) : spCompsS vs H Q E := by
  obtain ⟨b, L, c, args, hl, cz, ar, d, ns, rfl, h1, h2, h3, q⟩ := h
  cases ar with
  | cons a0 r0 =>
    cases r0
    refine ⟨L, _, d, ns, rfl, cz.1, a0, h1, h2, h3, fun H' r T s nr hr hT hC => ?_⟩
    let L2 : Hp := fun a => if ∃ p ∈ T, p.1 = a then H' a else L a
    have k1 : ∀ a, (∃ p ∈ T, p.1 = a) → L2 a = H' a := fun a h => if_pos h
    have k0 : ∀ a, ¬ (∃ p ∈ T, p.1 = a) → L2 a = L a := fun a h => if_neg h
    have fr : ∀ a, (∃ p ∈ T, p.1 = a) → H a = none := fun a ⟨p, hp, e⟩ => by rw [← e]; exact (hT p hp).2
    have s1 : Same L L2 := fun a o h => by
      by_cases z : ∃ p ∈ T, p.1 = a
      · have := fr a z
        rw [cz.1 a o h] at this; cases this
      · rw [k0 a z]; exact h
    have s2 : Same L2 H' := fun a o h => by
      by_cases z : ∃ p ∈ T, p.1 = a
      · rw [k1 a z] at h; exact h
      · rw [k0 a z] at h; exact s a o (cz.1 a o h)
    have sol : ∀ p ∈ T, Sol L2 p.1 (IL p.2) := fun p hp => by
      obtain ⟨o, h1, h2⟩ := (hT p hp).1
      exact ⟨o, h1, by rw [k1 _ ⟨p, hp, rfl⟩]; exact h2⟩
    have dv : ∀ U : List (Addr × List Int), (∀ p ∈ U, Sol L2 p.1 (IL p.2)) → DVs L2 (RL U) (dT (U.map (·.2))) := by
      intro U
      induction U with
      | nil => exact fun _ => .nil
      | cons p U ih => exact fun h => .cons (.tup (h p List.mem_cons_self) (dvs_ints p.2)) (ih fun z hz => h z (List.mem_cons_of_mem _ hz))
    have nT : ¬ ∃ p ∈ T, p.1 = r := fun ⟨p, hp, e⟩ => by
      obtain ⟨o, _, h2⟩ := (hT p hp).1
      rw [e, hr] at h2; cases h2
    have lr : L r = none := by
      cases z : L r with
      | none => rfl
      | some o => rw [cz.1 r o z] at nr; cases nr
    refine q _ hC (.ref r) L2 H' ⟨s2, fun a ea => ?_⟩ ⟨s1, fun a o h _ => s a o h, fun a h => ?_, fun a h hd => ?_⟩ ⟨r, _, rfl, nr, ?_, hr, dv T sol⟩
    · obtain ⟨z1, z2⟩ := cz.2 a ea
      refine ⟨?_, z2.keep ?_⟩
      · rw [k0 a fun z => z2.there (fr a z)]; exact z1
      · obtain ⟨x0, x1, x2, e, _⟩ := z2
        rw [e]; exact s a _ e
    · cases z : H a with
      | none => exact absurd z h
      | some o => rw [s a o z]; exact fun y => nomatch y
    · rw [k0 a fun z => hd (fr a z)]; exact h
    · rw [k0 r nT]; exact lr
theorem seqs_mono {K : PySem.W.Frag} {H H' : Hp} {a : Addr} {xs : List V} (s : Same H H') (h : SqL K H a xs ∨ SqT K H a xs) : SqL K H' a xs ∨ SqT K H' a xs := by
  rcases h with h | h
  · exact .inl (s.seq h)
  · rcases h with (h | ⟨o, h⟩) | h
    · exact .inr (.inl (.inl (s _ _ h)))
    · exact .inr (.inl (.inr ⟨o, s _ _ h⟩))
    · exact .inr (.inr h)
theorem ints_of {H : Hp} : ∀ {ns : List Int} {xs : List V}, DVs H xs (dI ns) → xs = IL ns
  | [], _, .nil => rfl
  | n :: ns, _, .cons a r => by
    cases a
    rw [ints_of r]; rfl
theorem ring_do {L H : Hp} {v : V} {d : PyData} {ns : List Int} {p : Int} {Q : VK} {E : XK} (s : Same L H) (dv : DV L v d) (it : PyData.its d = some (dI ns)) (st : Stt ns) (hp : Per ns p) (q : ∀ H' r, Same H H' → Sol H' r (IL (ringF ns p)) → Q (.ref r) H') : spD 2 p_ring_of [v, .int p] H Q E := by
  refine ⟨none, L, 0, [.sh d, .sh (.int p)], rfl, ⟨s, fun a e => nomatch e⟩, .cons dv (.cons (.int p) .nil), d, ns, p, rfl, it, st, hp, fun u L' H' cz ex vr => ?_⟩
  have vr' : DV L' u (.tuple (dI (ringF ns p))) := vr
  cases vr' with
  | tup h1 h2 =>
    rw [ints_of h2] at h1
    exact q H' _ (fun a o h => ex.hh a o h fun z => nomatch z) (h1.to cz.1)
end Lp

namespace Lp
open PySem PySem.Spec PyProof.Rows L2
local macro_rules | `(tactic| rfl') => `(tactic| try dsimp only [dVar_, gv_sh, gv_ow, gv_bx, gv_raw, gv_st, dC, dRaw, dOp, dUn, dTest, dTruth, dAnd, dOr, dNot, dYes, dIf, dAndV, dOrV, dNotV, dNotT, dChain, dNil, dCons, dTup, dLst, dats, dCB, dNoP, dPart, dSl, dNext, dBreak, dCont, dNever, dDrop, dRet, dRetN, dIfS, dSetG, dPar, dPar3, dAppend, dAppPop, dSetIx, dExt, dAug, dSet0, dSAdd, dSNotIn, dIter_, gi_l, gi_t, gi_b, dRng1, dRng2, dName, dGNil, dGCons, dGTup, dAsg, dFor, dWhile, dCall, dCallR, dArgs_, ga_f, ga_t, argsOf, dLc, wipeE, dListRg, dIndex, dSortSet, dSortSc, dEnum, dEnA, dZip, dIsi, dIsi2, isaT, φI, φB, φC, φNeg, add_i, add_l, add_t, mul_i, mul_l, φIx, sl_l, sl_t, eq_i, eq_s, eq_l, eq_t, eq_b, eq_n, φIsN, isN_n, isN_b, isN_i, isN_s, isN_l, isN_t, φLen, φList, φTuple, φAbs, φInt, φMax, φIsB, φIsNB, its_l, its_t, rd_sh, rd_nw, rd_br, rp_sh, rp_nw, rp_br, rp_bx, rp_raw, rp_sr, rr_sh, rr_nw, rr_br, ra_sh, ra_br, ra_bx, ra_raw, va_sh, va_nt, va_nf, va_raw, hb_n, hb_sh, hb_bx, hb_raw, hb_br, sh_n, sh_c, tr_n, tr_b, tr_i, tr_l, tr_t, ty_n, ty_b, ty_i, ty_s, ty_l, ty_t, if_ff, if_tt, Env.set, List.getElem?_cons_succ, List.getElem?_cons_zero, List.set_cons_succ, List.set_cons_zero, List.reverse_cons, List.reverse_nil, List.nil_append, List.cons_append, Option.bind_some, ite_true, ite_false])
/-- check_size: state, other -/
def b_check_size : DTS := (dIfS (dTest (dOp (φEq true) (dCB φLen (dCons (dVar 1) dNil)) (dCB φLen (dCons (dVar 0) dNil)))) dNever dNext)
abbrev k_check_size : Nat := 0
def p_check_size : DSp := fun args c Q => ∃ (d e : PyData) (ds es : List PyData), args = [.sh d, .sh e] ∧ PyData.its d = some ds ∧ PyData.its e = some es ∧ es.length = ds.length ∧ Q (.sh .none) c
theorem mon_check_size : MonF p_check_size := fun args c A B h ⟨d, e, ds, es, ea, h1, h2, h3, q⟩ => ⟨d, e, ds, es, ea, h1, h2, h3, h _ _ q⟩
theorem m_check_size : ∀ args c Q, p_check_size args c Q → defF k_check_size b_check_size args c Q := by
  rintro _ c Q ⟨d, e, ds, es, rfl, h1, h2, h3, q⟩
  show b_check_size _ ⟨[.sh d, .sh e], c⟩
  unfold b_check_size
  rfl'
  rw [h2, h1]
  rfl'
  exact in_f (by rw [h3]) q
theorem dT_len (a : List (List Int)) : (dT a).length = a.length := List.length_map ..
theorem enD_at (ms : List Int) : enD (dI ms) = (ms.zipIdx 0).map fun p : Int × Nat => .tuple [.int (p.2 : Nat), .int p.1] := enD_dI ms
abbrev hds (RS : List (List Int)) : List Int := RS.map fun r => r.headD 0
theorem atI_hd {r : List Int} (h : r ≠ []) : atI (dI r) 0 = some (.int (r.headD 0)) := by
  cases r with
  | nil => exact absurd rfl h
  | cons x r =>
    rw [atI_nat (Int.le_refl 0) (by rw [dI_len, List.length_cons]; omega)]; rfl
/-- meets_first: ring, start, early, late, order -/
def b_meets_first : DTS := (dSeq (dSetG false 4 (dCall p_turned (dCons (dVar 0) (dCons (dVar 1) dNil))))
  (dRet (dOp (φB fun i j => decide (i < j)) (dIndex (dVar 4) (dVar 2)) (dIndex (dVar 4) (dVar 3)))))
abbrev k_meets_first : Nat := 1
def p_meets_first : DSp := fun args c Q => ∃ (ms : List Int) (z a b : Int), args = [.sh (.tuple (dI ms)), .sh (.int z), .sh (.int a), .sh (.int b)] ∧ z ∈ ms ∧ a ∈ ms ∧ b ∈ ms ∧ ms.length ≤ 1000000 ∧ Q (.sh (.bool (decide ((turnTo ms z).idxOf a < (turnTo ms z).idxOf b)))) c
theorem mon_meets_first : MonF p_meets_first := fun args c A B h ⟨ms, z, a, b, ea, h1, h2, h3, h4, q⟩ => ⟨ms, z, a, b, ea, h1, h2, h3, h4, h _ _ q⟩
theorem mem_turnTo {ms : List Int} {z x : Int} : x ∈ turnTo ms z ↔ x ∈ ms := by
  unfold turnTo
  rw [List.mem_append, Or.comm, ← List.mem_append, List.take_append_drop]
theorem m_meets_first : ∀ args c Q, p_meets_first args c Q → defF k_meets_first b_meets_first args c Q := by
  rintro _ c Q ⟨ms, z, a, b, rfl, h1, h2, h3, h4, q⟩
  show b_meets_first _ ⟨[.sh (.tuple (dI ms)), .sh (.int z), .sh (.int a), .sh (.int b), .un], c⟩
  unfold b_meets_first
  refine sq_ ?_
  rfl'
  refine ⟨false, ms, z, rfl, h1, h4, ?_⟩
  dsimp only [rq]
  rfl'
  rw [intsD_dI]
  refine ⟨mem_turnTo.mpr h2, ?_⟩
  refine ⟨mem_turnTo.mpr h3, ?_⟩
  have e : decide ((((turnTo ms z).idxOf a : Nat) : Int) < (((turnTo ms z).idxOf b : Nat) : Int)) = decide ((turnTo ms z).idxOf a < (turnTo ms z).idxOf b) := by
    by_cases q : (turnTo ms z).idxOf a < (turnTo ms z).idxOf b
    · rw [decide_eq_true q, decide_eq_true (by omega)]
    · rw [decide_eq_false q, decide_eq_false (by omega)]
  rw [e]
  exact q
end Lp

namespace Lp
open PySem PySem.Spec PyProof.Rows L2
local macro_rules | `(tactic| rfl') => `(tactic| try dsimp only [dVar_, gv_sh, gv_ow, gv_bx, gv_raw, gv_exn, gv_st, dC, dRaw, dOp, dUn, dTest, dTruth, dAnd, dOr, dNot, dYes, dIf, dAndV, dOrV, dNotV, dNotT, dChain, dNil, dCons, dTup, dLst, dats, dCB, dNoP, dPart, dSl, dNext, dBreak, dCont, dNever, dDrop, dRet, dRetN, dIfS, dSetG, dPar, dPar3, dAppend, dAppPop, dSetIx, dExt, dAug, dSet0, dSAdd, dSNotIn, dIter_, gi_l, gi_t, gi_b, dRng1, dRng2, dName, dGNil, dGCons, dGTup, dAsg, dFor, dWhile, dCall, dCallR, dArgs_, ga_f, ga_t, argsOf, dLc, wipeE, dListRg, dIndex, dSortSet, dSortSc, dEnum, dEnA, dZip, dIsi, dIsi2, isaT, φI, φB, φC, φNeg, add_i, add_l, add_t, mul_i, mul_l, φIx, sl_l, sl_t, eq_i, eq_s, eq_l, eq_t, eq_b, eq_n, φIsN, isN_n, isN_b, isN_i, isN_s, isN_l, isN_t, φLen, φList, φTuple, φAbs, φInt, φMax, φIsB, φIsNB, its_l, its_t, rd_sh, rd_nw, rd_br, rp_sh, rp_nw, rp_br, rp_bx, rp_raw, rp_sr, rr_sh, rr_nw, rr_br, ra_sh, ra_br, ra_bx, ra_raw, va_sh, va_nt, va_nf, va_raw, hb_n, hb_sh, hb_bx, hb_raw, hb_br, sh_n, sh_c, tr_n, tr_b, tr_i, tr_l, tr_t, ty_n, ty_b, ty_i, ty_s, ty_l, ty_t, if_ff, if_tt, Env.set, List.getElem?_cons_succ, List.getElem?_cons_zero, List.set_cons_succ, List.set_cons_zero, List.reverse_cons, List.reverse_nil, List.nil_append, List.cons_append, Option.bind_some, ite_true, ite_false])
/-- order_broken: members, ring, early, late -/
def b_order_broken : DTS := (dSeq (dFor (dZip (dCons (dSl φSl (dVar 0) (dPart (dC (.int 1))) dNoP) (dCons (dSl φSl (dVar 0) (dPart (dC (.int 2))) dNoP) dNil))) (dGTup 2 (dGCons (dName 2) (dGCons (dName 3) dGNil))) (dIfS (dTruth (dCall p_meets_first (dCons (dVar 1) (dCons (dOp φIx (dVar 0) (dC (.int 0))) (dCons (dVar 3) (dCons (dVar 2) dNil)))))) (dRet (dTup (dCons (dC (.str "order")) (dCons (dOp φIx (dVar 0) (dC (.int 0))) (dCons (dVar 2) (dCons (dVar 3) dNil)))))) dNext))
  (dRet (dC .none)))
abbrev k_order_broken : Nat := 2
def brkD (own lap : List Int) : PyData := match brokenL own lap.tail with
  | some (e, l) => .tuple [.str "order", .int (lap.headD 0), .int e, .int l]
  | none => .none
def p_order_broken : DSp := fun args c Q => ∃ (b : Bool) (lap rg : List Int), args = [.sh (sq b lap), .sh (.tuple (dI rg))] ∧ (∀ z ∈ lap, z ∈ rg) ∧ rg.length ≤ 1000000 ∧ Q (.sh (brkD (turnTo rg (lap.headD 0)) lap)) c
theorem mon_order_broken : MonF p_order_broken := fun args c A B h ⟨b, lap, rg, ea, h2, h3, q⟩ => ⟨b, lap, rg, ea, h2, h3, h _ _ q⟩
abbrev brk_body : DTS := (dIfS (dTruth (dCall p_meets_first (dCons (dVar 1) (dCons (dOp φIx (dVar 0) (dC (.int 0))) (dCons (dVar 3) (dCons (dVar 2) dNil)))))) (dRet (dTup (dCons (dC (.str "order")) (dCons (dOp φIx (dVar 0) (dC (.int 0))) (dCons (dVar 2) (dCons (dVar 3) dNil)))))) dNext)
theorem brk_loop {b : Bool} {lap rg : List Int} (hne : lap ≠ []) (hm : lap.headD 0 ∈ rg) (hl : rg.length ≤ 1000000) {Δ : DEnds} {c : Nat} : ∀ (ls : List Int) (y z : SV), (∀ z ∈ ls, z ∈ rg) →
    (∀ e l y z, brokenL (turnTo rg (lap.headD 0)) ls = some (e, l) → Δ.rt (.sh (.tuple [.str "order", .int (lap.headD 0), .int e, .int l])) ⟨[.sh (sq b lap), .sh (.tuple (dI rg)), y, z], c⟩) →
    (brokenL (turnTo rg (lap.headD 0)) ls = none → ∀ y z, Δ.nx ⟨[.sh (sq b lap), .sh (.tuple (dI rg)), y, z], c⟩) →
    forD (dGTup 2 (dGCons (dName 2) (dGCons (dName 3) dGNil))) brk_body Δ (zipDs (dI ls) (dI ls.tail)) ⟨[.sh (sq b lap), .sh (.tuple (dI rg)), y, z], c⟩
  | [], y, z, _, _, qn => qn rfl y z
  | [_], y, z, _, _, qn => qn rfl y z
  | e :: l :: r, y, z, hz, qr, qn => by
    unfold brokenL at qr qn
    show forD _ _ _ (.tuple [.int e, .int l] :: zipDs (dI (l :: r)) (dI (l :: r).tail)) _
    refine for_cons ?_
    unfold brk_body
    have rest := fun (y z : SV) qr qn => brk_loop (b := b) hne hm hl (Δ := Δ) (c := c) (l :: r) y z (fun z h => hz z (List.mem_cons_of_mem _ h)) qr qn
    unfold brk_body at rest
    cases b
    all_goals
      dsimp only [sq] at qr qn rest ⊢
      rfl'
      refine ⟨rfl, ?_⟩
      refine ⟨_, atI_hd hne, ?_⟩
      refine ⟨rg, _, l, e, rfl, hm, hz l (List.mem_cons_of_mem _ List.mem_cons_self), hz e List.mem_cons_self, hl, ?_⟩
      rfl'
      refine it_2 (fun h => ?_) fun h => ?_
      · rw [if_pos h] at qr
        refine ⟨_, atI_hd hne, ?_⟩
        exact qr _ _ _ _ rfl
      · rw [if_neg h] at qr qn
        exact rest _ _ qr qn
theorem m_order_broken : ∀ args c Q, p_order_broken args c Q → defF k_order_broken b_order_broken args c Q := by
  rintro _ c Q ⟨b, lap, rg, rfl, h2, h3, q⟩
  show b_order_broken _ ⟨[.sh (sq b lap), .sh (.tuple (dI rg)), .un, .un], c⟩
  unfold b_order_broken
  have e1 : lap.drop (1 : Int).toNat = lap.tail := by rw [show (1 : Int).toNat = 1 from rfl, List.drop_one]
  have e2 : lap.drop (2 : Int).toNat = lap.tail.tail := by rw [show (2 : Int).toNat = 1 + 1 from rfl, ← List.drop_drop, List.drop_one, List.drop_one]
  refine sqa_ fun D hD => ?_
  have loop : forD (dGTup 2 (dGCons (dName 2) (dGCons (dName 3) dGNil))) brk_body { nx := D, rt := fun r ε => Q r ε.c } (zipDs (dI lap.tail) (dI lap.tail.tail)) ⟨[.sh (sq b lap), .sh (.tuple (dI rg)), .un, .un], c⟩ := by
    by_cases h1 : lap = []
    · subst h1
      refine for_nil (hD _ ?_)
      rfl'
      exact q
    have hm : lap.headD 0 ∈ rg := by
      cases lap with
      | nil => exact absurd rfl h1
      | cons x r => exact h2 x List.mem_cons_self
    unfold brkD at q
    refine brk_loop h1 hm h3 lap.tail _ _ (fun z hz => h2 z (List.mem_of_mem_tail hz)) (fun e l y z he => ?_) fun hn y z => hD _ ?_
    · rw [he] at q
      exact q
    · rw [hn] at q
      rfl'
      exact q
  unfold brk_body at loop
  cases b
  all_goals
    dsimp only [sq] at loop ⊢
    rfl'
    refine ⟨rfl, ?_⟩
    rw [cutD_from _ _ (by decide), cutD_from _ _ (by decide), dI_drop, dI_drop, e1, e2]
    exact loop
/-- what the order of a closed ring is measured by -/
theorem broken_same {own own' : List Int} : ∀ ls : List Int, (∀ e ∈ ls, own'.idxOf e = own.idxOf e + 1) → brokenL own' ls = brokenL own ls
  | [], _ => rfl
  | [_], _ => rfl
  | e :: l :: r, h => by
    unfold brokenL
    rw [h e List.mem_cons_self, h l (List.mem_cons_of_mem _ List.mem_cons_self), broken_same (l :: r) fun z hz => h z (List.mem_cons_of_mem _ hz)]
    by_cases q : own.idxOf l < own.idxOf e
    · rw [if_pos q, if_pos (by omega)]
    · rw [if_neg q, if_neg (by omega)]
/-- a closed ring of a goal on the ways -/
theorem lap_facts {ns gs : List Int} (h : Stt ns) (sg : Stt gs) (hl : gs.length = ns.length) (hw : OnWays ns gs) {lap : List Int} (hm : lap ∈ closedF gs) :
    Per ns (lap.headD 0) ∧ lap ≠ [] ∧ (∀ z ∈ lap, z ∈ ringF ns (lap.headD 0)) ∧ (∀ z ∈ lap, z ∈ routeF ns (gt ns (lap.headD 0))) ∧ brokenL (turnTo (ringF ns (lap.headD 0)) (lap.headD 0)) lap.tail = brokenF ns lap := by
  obtain ⟨x, c, hx, cy, el, eh, _⟩ := closed_mem sg hm
  have px : Per ns x := ⟨hx.1, by rw [← hl]; exact hx.2⟩
  obtain ⟨⟨d, cn⟩, hin⟩ := ways_on h hw px cy
  have on := (on_iff h px).mpr ⟨d, cn⟩
  rw [eh]
  have mem : ∀ z ∈ lap, z ∈ ringF ns x := fun z hz => hin z (by rw [← el]; exact hz)
  refine ⟨px, by rw [el]; exact itrs_ne cy.1, mem, fun z hz => ring_way h px on (mem z hz), ?_⟩
  unfold brokenF
  rw [eh]
  refine broken_same _ fun e he => idx_own h px cn (mem e (List.mem_of_mem_tail he)) fun z => ?_
  have nd : lap.Nodup := by rw [el]; exact cy.2.2
  cases hlap : lap with
  | nil => rw [hlap] at he; cases he
  | cons a r =>
    rw [hlap] at he nd eh
    have ha : a = x := eh
    exact (List.nodup_cons.mp nd).1 (by rw [ha, ← z]; exact he)
theorem ring_len {ns : List Int} (h : Stt ns) {x : Int} (hx : Per ns x) : (ringF ns x).length ≤ ns.length := by
  obtain ⟨c, er, cy, h0, h1⟩ := headF_form h.lo hx.1 hx.2
  rw [er]
  refine low_len ns.length _ cy.2.2 fun z hz => ?_
  obtain ⟨i, _, rfl⟩ := itrs_mem.mp hz
  exact itr_low h.lo h0 h1 i
end Lp

namespace Lp
open PySem PySem.Spec PyProof.Rows L2
local macro_rules | `(tactic| rfl') => `(tactic| try dsimp only [dVar_, gv_sh, gv_ow, gv_bx, gv_raw, gv_st, dC, dRaw, dOp, dUn, dTest, dTruth, dAnd, dOr, dNot, dYes, dIf, dAndV, dOrV, dNotV, dNotT, dChain, dNil, dCons, dTup, dLst, dats, dCB, dNoP, dPart, dSl, dNext, dBreak, dCont, dNever, dDrop, dRet, dRetN, dIfS, dSetG, dPar, dPar3, dAppend, dAppPop, dSetIx, dExt, dAug, dSet0, dSAdd, dSNotIn, dIter_, gi_l, gi_t, gi_b, dRng1, dRng2, dName, dGNil, dGCons, dGTup, dAsg, dFor, dWhile, dCall, dCallR, dArgs_, ga_f, ga_t, argsOf, dLc, wipeE, dListRg, dIndex, dSortSet, dSortSc, dEnum, dEnA, dZip, dIsi, dIsi2, isaT, φI, φB, φC, φNeg, add_i, add_l, add_t, mul_i, mul_l, φIx, sl_l, sl_t, eq_i, eq_s, eq_l, eq_t, eq_b, eq_n, φIsN, isN_n, isN_b, isN_i, isN_s, isN_l, isN_t, φLen, φList, φTuple, φAbs, φInt, φMax, φIsB, φIsNB, its_l, its_t, rd_sh, rd_nw, rd_br, rp_sh, rp_nw, rp_br, rp_bx, rp_raw, rp_sr, rr_sh, rr_nw, rr_br, ra_sh, ra_br, ra_bx, ra_raw, va_sh, va_nt, va_nf, va_raw, hb_n, hb_sh, hb_bx, hb_raw, hb_br, sh_n, sh_c, tr_n, tr_b, tr_i, tr_l, tr_t, ty_n, ty_b, ty_i, ty_s, ty_l, ty_t, if_ff, if_tt, Env.set, List.getElem?_cons_succ, List.getElem?_cons_zero, List.set_cons_succ, List.set_cons_zero, List.reverse_cons, List.reverse_nil, List.nil_append, List.cons_append, Option.bind_some, ite_true, ite_false])
end Lp

namespace Lp
open PySem PySem.Spec PyProof.Rows L2
local macro_rules | `(tactic| rfl') => `(tactic| try dsimp only [dVar_, gv_sh, gv_ow, gv_bx, gv_raw, gv_st, dC, dRaw, dOp, dUn, dTest, dTruth, dAnd, dOr, dNot, dYes, dIf, dAndV, dOrV, dNotV, dNotT, dChain, dNil, dCons, dTup, dLst, dats, dCB, dNoP, dPart, dSl, dNext, dBreak, dCont, dNever, dDrop, dRet, dRetN, dIfS, dSetG, dPar, dPar3, dAppend, dAppPop, dSetIx, dExt, dAug, dSet0, dSAdd, dSNotIn, dIter_, gi_l, gi_t, gi_b, dRng1, dRng2, dName, dGNil, dGCons, dGTup, dAsg, dFor, dWhile, dCall, dCallR, dArgs_, ga_f, ga_t, argsOf, dLc, wipeE, dListRg, dIndex, dSortSet, dSortSc, dEnum, dEnA, dZip, dIsi, dIsi2, isaT, φI, φB, φC, φNeg, add_i, add_l, add_t, mul_i, mul_l, φIx, sl_l, sl_t, eq_i, eq_s, eq_l, eq_t, eq_b, eq_n, φIsN, isN_n, isN_b, isN_i, isN_s, isN_l, isN_t, φLen, φList, φTuple, φAbs, φInt, φMax, φIsB, φIsNB, its_l, its_t, rd_sh, rd_nw, rd_br, rp_sh, rp_nw, rp_br, rp_bx, rp_raw, rp_sr, rr_sh, rr_nw, rr_br, ra_sh, ra_br, ra_bx, ra_raw, va_sh, va_nt, va_nf, va_raw, hb_n, hb_sh, hb_bx, hb_raw, hb_br, sh_n, sh_c, tr_n, tr_b, tr_i, tr_l, tr_t, ty_n, ty_b, ty_i, ty_s, ty_l, ty_t, if_ff, if_tt, Env.set, List.getElem?_cons_succ, List.getElem?_cons_zero, List.set_cons_succ, List.set_cons_zero, List.reverse_cons, List.reverse_nil, List.nil_append, List.cons_append, Option.bind_some, ite_true, ite_false])
theorem Stt.call {ns : List Int} (h : Stt ns) {w : Int} (hw : Per ns w) : Stt (call1 ns w) := by
  have e := call1_len ns w
  exact ⟨by rw [e]; exact call1_low h.lo rfl hw.1 hw.2, by rw [e]; exact h.le, by rw [e]; exact h.ge⟩
theorem Stt.callAll {ns : List Int} (h : Stt ns) : ∀ {ws : List Int}, Low ns.length ws → Stt (callAll ns ws) := fun {ws} hw => by
  have e := callAll_len ws ns
  exact ⟨by rw [e]; exact callAll_low ws ns h.lo rfl hw, by rw [e]; exact h.le, by rw [e]; exact h.ge⟩
theorem gt_set {gs : List Int} {w x v : Int} (w0 : 0 ≤ w) (w1 : w < (gs.length : Int)) (x0 : 0 ≤ x) : gt (gs.set w.toNat v) x = if x = w then v else gt gs x := by
  unfold gt
  rw [List.getD_eq_getElem?_getD, List.getD_eq_getElem?_getD, List.getElem?_set]
  by_cases e : x = w
  · subst e
    rw [if_pos rfl, if_pos rfl, if_pos (by omega)]; rfl
  · rw [if_neg (by omega), if_neg e]
section
variable {x0 x1 x2 x3 x4 x5 x6 x7 x8 : SV} {Δ : DEnds}
/-- the others of the lap, one after another -/
structure Tied (n : Nat) (g0 gs T : List Int) (k : Nat) : Prop where
  len : gs.length = n
  lo : Low n gs
  nd : T.Nodup
  per : ∀ z ∈ T, 0 ≤ z ∧ z < (n : Int)
  kl : k ≤ T.length
  k0 : 0 < k
  hook : ∀ i, k ≤ i → i < T.length → ∃ j, j < i ∧ gt gs (T.getD i 0) = T.getD j 0
  same : ∀ x, 0 ≤ x → x ∉ T.drop k → gt gs x = gt g0 x
theorem Tied.snoc {n : Nat} {g0 gs T : List Int} {k : Nat} (h : Tied n g0 gs T k) {w v : Int} (hw : w ∉ T) (w0 : 0 ≤ w) (w1 : w < (n : Int)) (hv : v ∈ T) : Tied n g0 (gs.set w.toNat v) (T ++ [w]) k := by
  have wl : w < (gs.length : Int) := by rw [h.len]; exact w1
  have vp := h.per v hv
  refine ⟨by rw [List.length_set]; exact h.len, h.lo.set vp.1 vp.2, Nodup.snoc h.nd hw, fun z hz => ?_, by rw [List.length_append]; have := h.kl; omega, h.k0, fun i hi ht => ?_, fun x x0 hx => ?_⟩
  · rcases List.mem_append.mp hz with q | q
    · exact h.per z q
    · rw [List.mem_singleton.mp q]; exact ⟨w0, w1⟩
  · rw [List.length_append, List.length_singleton] at ht
    by_cases q : i < T.length
    · obtain ⟨j, hj, e⟩ := h.hook i hi q
      have m1 : T.getD i 0 ∈ T := getD_mem q
      have g1 : (T ++ [w]).getD i 0 = T.getD i 0 := by rw [List.getD_eq_getElem?_getD, List.getD_eq_getElem?_getD, List.getElem?_append_left q]
      have g2 : (T ++ [w]).getD j 0 = T.getD j 0 := by rw [List.getD_eq_getElem?_getD, List.getD_eq_getElem?_getD, List.getElem?_append_left (by omega)]
      refine ⟨j, hj, ?_⟩
      rw [g1, g2, gt_set w0 wl (h.per _ m1).1, if_neg (fun z => hw (by rw [← z]; exact m1)), e]
    · have e : i = T.length := by omega
      obtain ⟨j, hj, ej⟩ := List.mem_iff_getElem.mp hv
      have g1 : (T ++ [w]).getD i 0 = w := by rw [e, List.getD_eq_getElem?_getD, List.getElem?_concat_length]; rfl
      have g2 : (T ++ [w]).getD j 0 = v := by rw [List.getD_eq_getElem?_getD, List.getElem?_append_left hj, List.getElem?_eq_getElem hj, ej]; rfl
      refine ⟨j, by omega, ?_⟩
      rw [g1, g2, gt_set w0 wl w0, if_pos rfl]
  · have hk := h.kl
    rw [List.drop_append_of_le_length hk] at hx
    have hx1 : x ∉ T.drop k := fun z => hx (List.mem_append_left _ z)
    have hx2 : x ≠ w := fun z => hx (List.mem_append_right _ (by rw [z]; exact List.mem_singleton.mpr rfl))
    rw [gt_set w0 wl x0, if_neg hx2, h.same x x0 hx1]
end
end Lp

namespace Lp
open PySem PySem.Spec PyProof.Rows L2
local macro_rules | `(tactic| rfl') => `(tactic| try dsimp only [dVar_, gv_sh, gv_ow, gv_bx, gv_raw, gv_exn, gv_st, dC, dRaw, dOp, dUn, dTest, dTruth, dAnd, dOr, dNot, dYes, dIf, dAndV, dOrV, dNotV, dNotT, dChain, dNil, dCons, dTup, dLst, dats, dCB, dNoP, dPart, dSl, dNext, dBreak, dCont, dNever, dDrop, dRet, dRetN, dIfS, dSetG, dPar, dPar3, dAppend, dAppPop, dSetIx, dExt, dAug, dSet0, dSAdd, dSNotIn, dIter_, gi_l, gi_t, gi_b, dRng1, dRng2, dName, dGNil, dGCons, dGTup, dAsg, dFor, dWhile, dCall, dCallR, dArgs_, ga_f, ga_t, argsOf, dLc, wipeE, dListRg, dIndex, dSortSet, dSortSc, dEnum, dEnA, dZip, dIsi, dIsi2, isaT, φI, φB, φC, φNeg, add_i, add_l, add_t, mul_i, mul_l, φIx, sl_l, sl_t, eq_i, eq_s, eq_l, eq_t, eq_b, eq_n, φIsN, isN_n, isN_b, isN_i, isN_s, isN_l, isN_t, φLen, φList, φTuple, φAbs, φInt, φMax, φIsB, φIsNB, its_l, its_t, rd_sh, rd_nw, rd_br, rp_sh, rp_nw, rp_br, rp_bx, rp_raw, rp_sr, rr_sh, rr_nw, rr_br, ra_sh, ra_br, ra_bx, ra_raw, va_sh, va_nt, va_nf, va_raw, hb_n, hb_sh, hb_bx, hb_raw, hb_br, sh_n, sh_c, tr_n, tr_b, tr_i, tr_l, tr_t, ty_n, ty_b, ty_i, ty_s, ty_l, ty_t, if_ff, if_tt, Env.set, List.getElem?_cons_succ, List.getElem?_cons_zero, List.set_cons_succ, List.set_cons_zero, List.reverse_cons, List.reverse_nil, List.nil_append, List.cons_append, Option.bind_some, ite_true, ite_false])
/-- a list of people under way -/
structure Und (n : Nat) (gs : List Int) : Prop where
  len : gs.length = n
  lo : Low n gs
end Lp

namespace Lp
open PySem PySem.Spec PyProof.Rows L2
local macro_rules | `(tactic| rfl') => `(tactic| try dsimp only [dVar_, gv_sh, gv_ow, gv_bx, gv_raw, gv_st, dC, dRaw, dOp, dUn, dTest, dTruth, dAnd, dOr, dNot, dYes, dIf, dAndV, dOrV, dNotV, dNotT, dChain, dNil, dCons, dTup, dLst, dats, dCB, dNoP, dPart, dSl, dNext, dBreak, dCont, dNever, dDrop, dRet, dRetN, dIfS, dSetG, dPar, dPar3, dAppend, dAppPop, dSetIx, dExt, dAug, dSet0, dSAdd, dSNotIn, dIter_, gi_l, gi_t, gi_b, dRng1, dRng2, dName, dGNil, dGCons, dGTup, dAsg, dFor, dWhile, dCall, dCallR, dArgs_, ga_f, ga_t, argsOf, dLc, wipeE, dListRg, dIndex, dSortSet, dSortSc, dEnum, dEnA, dZip, dIsi, dIsi2, isaT, φI, φB, φC, φNeg, add_i, add_l, add_t, mul_i, mul_l, φIx, sl_l, sl_t, eq_i, eq_s, eq_l, eq_t, eq_b, eq_n, φIsN, isN_n, isN_b, isN_i, isN_s, isN_l, isN_t, φLen, φList, φTuple, φAbs, φInt, φMax, φIsB, φIsNB, its_l, its_t, rd_sh, rd_nw, rd_br, rp_sh, rp_nw, rp_br, rp_bx, rp_raw, rp_sr, rr_sh, rr_nw, rr_br, ra_sh, ra_br, ra_bx, ra_raw, va_sh, va_nt, va_nf, va_raw, hb_n, hb_sh, hb_bx, hb_raw, hb_br, sh_n, sh_c, tr_n, tr_b, tr_i, tr_l, tr_t, ty_n, ty_b, ty_i, ty_s, ty_l, ty_t, if_ff, if_tt, Env.set, List.getElem?_cons_succ, List.getElem?_cons_zero, List.set_cons_succ, List.set_cons_zero, List.reverse_cons, List.reverse_nil, List.nil_append, List.cons_append, Option.bind_some, ite_true, ite_false])
/-- ns leads to gs, as far as the people of S go -/
structure LeadOn (S : Int → Prop) (ns gs : List Int) : Prop where
  ways : ∀ x, S x → ∃ m, 0 < m ∧ gt gs x = itr ns x m
  one : ∀ x y c c', S x → S y → Cyc gs x c → Cyc gs y c' → (∃ s t, itr ns x s = itr ns y t) → y ∈ itrs gs x c
  ord : ∀ x c d, S x → Cyc gs x c → Cyc ns x d → (itrs gs x c).Sublist (itrs ns x d)
abbrev Lead (ns gs : List Int) : Prop := LeadOn (Per ns) ns gs
theorem route_all {ns : List Int} (h : Stt ns) {p : Int} (hp : Per ns p) (t : Nat) : itr ns p t ∈ routeF ns p := by
  obtain ⟨c, cy, _, er⟩ := ringF_cyc h.lo hp.1 hp.2
  rw [er]
  by_cases q : t < heightF ns p
  · exact itrs_mem.mpr ⟨t, by omega, rfl⟩
  · rw [itrs_cat]
    refine List.mem_append_right _ ?_
    have := cy.all (t - heightF ns p)
    rw [← itr_add, show heightF ns p + (t - heightF ns p) = t by omega] at this
    exact this
theorem itr_way {ns : List Int} (h : Stt ns) {x : Int} (hx : Per ns x) {m : Nat} (hm : 0 < m) : itr ns x m ∈ routeF ns (gt ns x) := by
  obtain ⟨k, rfl⟩ : ∃ k, m = k + 1 := ⟨m - 1, by omega⟩
  rw [itr_succ]
  exact route_all h (h.gt hx) k
theorem ways_iff {ns gs : List Int} (h : Stt ns) : OnWays ns gs ↔ ∀ x, Per ns x → ∃ m, 0 < m ∧ gt gs x = itr ns x m := by
  constructor
  · intro hw x hx
    exact way_itr h hx (hw x hx)
  · intro hw x hx
    obtain ⟨m, hm, e⟩ := hw x hx
    rw [e]; exact itr_way h hx hm
theorem second_iff {ns : List Int} : ∀ hs : List Int, secondF ns hs = none → ∀ a ∈ hs, ∀ b ∈ hs, ringF ns a = ringF ns b → a = b
  | [], _, a, ha, _, _, _ => nomatch ha
  | h :: hs, hn, a, ha, b, hb, e => by
    unfold secondF at hn
    cases hf : hs.find? (fun g => decide (ringF ns g = ringF ns h)) with
    | some g => rw [hf] at hn; cases hn
    | none =>
      rw [hf] at hn
      have nf := List.find?_eq_none.mp hf
      have no : ∀ g ∈ hs, ringF ns g ≠ ringF ns h := fun g hg e => nf g hg (decide_eq_true e)
      rcases List.mem_cons.mp ha with ea | ha2
      · rcases List.mem_cons.mp hb with eb | hb2
        · rw [ea, eb]
        · rw [ea] at e
          exact absurd e.symm (no b hb2)
      · rcases List.mem_cons.mp hb with eb | hb2
        · rw [eb] at e
          exact absurd e (no a ha2)
        · exact second_iff hs hn a ha2 b hb2 e
theorem orderF_iff {ns : List Int} : ∀ RS : List (List Int), orderF ns RS = .none → ∀ lap ∈ RS, brokenF ns lap = none
  | [], _, lap, h => nomatch h
  | r :: RS, hn, lap, h => by
    unfold orderF at hn
    cases hb : brokenF ns r with
    | some p => rw [hb] at hn; cases hn
    | none =>
      rw [hb] at hn
      rcases List.mem_cons.mp h with rfl | h
      · exact hb
      · exact orderF_iff RS hn lap h
theorem idx_inj {own : List Int} {a b : Int} (ha : a ∈ own) (hb : b ∈ own) (e : own.idxOf a = own.idxOf b) : a = b := by
  have h1 := idx_get ha
  have h2 := idx_get hb
  rw [e, h2] at h1
  exact (Option.some.inj h1).symm
theorem broken_pw {own : List Int} : ∀ ls : List Int, ls.Nodup → (∀ z ∈ ls, z ∈ own) → brokenL own ls = none → ls.Pairwise (fun a b => own.idxOf a < own.idxOf b)
  | [], _, _, _ => List.Pairwise.nil
  | [x], _, _, _ => List.pairwise_singleton _ _
  | e :: l :: r, nd, hm, hn => by
    unfold brokenL at hn
    by_cases q : own.idxOf l < own.idxOf e
    · rw [if_pos q] at hn; cases hn
    · rw [if_neg q] at hn
      have n2 := List.nodup_cons.mp nd
      have ih := broken_pw (l :: r) n2.2 (fun z hz => hm z (List.mem_cons_of_mem _ hz)) hn
      have lt : own.idxOf e < own.idxOf l := by
        have ne : own.idxOf e ≠ own.idxOf l := fun z => n2.1 (by
          rw [idx_inj (hm e List.mem_cons_self) (hm l (List.mem_cons_of_mem _ List.mem_cons_self)) z]
          exact List.mem_cons_self)
        omega
      refine List.pairwise_cons.mpr ⟨fun z hz => ?_, ih⟩
      rcases List.mem_cons.mp hz with rfl | hz
      · exact lt
      · exact Nat.lt_trans lt ((List.pairwise_cons.mp ih).1 z hz)
theorem pw_sub : ∀ (own ls : List Int), (∀ z ∈ ls, z ∈ own) → ls.Pairwise (fun a b => own.idxOf a < own.idxOf b) → ls.Sublist own
  | own, [], _, _ => List.nil_sublist own
  | [], e :: r, hm, _ => nomatch hm e List.mem_cons_self
  | o :: own, e :: r, hm, pw => by
    have p2 := List.pairwise_cons.mp pw
    have shift : ∀ z, z ≠ o → (o :: own).idxOf z = own.idxOf z + 1 := fun z hz => by
      rw [List.idxOf_cons, beq_eq_false_iff_ne.mpr (Ne.symm hz)]; rfl
    have big : ∀ z ∈ r, z ≠ o := fun z hz e2 => by
      have := p2.1 z hz
      rw [e2, List.idxOf_cons_self] at this
      omega
    have inn : ∀ z ∈ r, z ∈ own := fun z hz => (List.mem_cons.mp (hm z (List.mem_cons_of_mem _ hz))).resolve_left (big z hz)
    have pr : r.Pairwise (fun a b => own.idxOf a < own.idxOf b) := List.Pairwise.imp_of_mem (fun {a b} ha hb hab => by rw [shift a (big a ha), shift b (big b hb)] at hab; omega) p2.2
    by_cases q : e = o
    · subst q
      exact (pw_sub own r inn pr).cons_cons e
    · refine (pw_sub own (e :: r) (fun z hz => ?_) (List.pairwise_cons.mpr ⟨fun z hz => ?_, pr⟩)).cons o
      · rcases List.mem_cons.mp hz with rfl | hz
        · exact (List.mem_cons.mp (hm z List.mem_cons_self)).resolve_left q
        · exact inn z hz
      · have := p2.1 z hz
        rw [shift e q, shift z (big z hz)] at this
        omega
theorem itrs_cons {ns : List Int} {x : Int} {c : Nat} (h : 0 < c) : itrs ns x c = x :: itrs ns (gt ns x) (c - 1) := by
  obtain ⟨M, rfl⟩ : ∃ M, c = M + 1 := ⟨c - 1, by omega⟩
  rw [Nat.add_sub_cancel, Nat.add_comm, itrs_cat]
  rfl
/-- a cycle from another of its members -/
theorem cyc_from {ns : List Int} {x z : Int} {c : Nat} (cy : Cyc ns x c) (hz : z ∈ itrs ns x c) : ∃ i, i < c ∧ (itrs ns x c).getD i 0 = z ∧ itrs ns z c = (itrs ns x c).drop i ++ (itrs ns x c).take i ∧ (itrs ns x c).idxOf z = i := by
  obtain ⟨i, hi, rfl⟩ := itrs_mem.mp hz
  exact ⟨i, hi, by rw [List.getD_eq_getElem?_getD, itrs_get hi]; rfl, cy.turn (Nat.le_of_lt hi), idx_itrs cy.2.2 hi⟩
/-- order from one member is order from each -/
theorem ord_from {ns gs : List Int} {x z : Int} {c d : Nat} (cg : Cyc gs x c) (cn : Cyc ns x d) (hs : (itrs gs x c).Sublist (itrs ns x d)) (hz : z ∈ itrs gs x c) : (itrs gs z c).Sublist (itrs ns z d) := by
  obtain ⟨i, hi, e1, e2, _⟩ := cyc_from cg hz
  obtain ⟨j, hj, f1, f2, f3⟩ := cyc_from cn (hs.subset hz)
  have hil : i < (itrs gs x c).length := by rw [itrs_len]; exact hi
  have hjl : j < (itrs ns x d).length := by rw [itrs_len]; exact hj
  have st := sub_turn cn.2.2 hs i hil
  rw [e1, f3] at st
  rw [e2, f2, ← List.getElem_cons_drop (h := hil), ← List.getElem_cons_drop (h := hjl)]
  have g1 : (itrs gs x c)[i] = z := by rw [← e1, List.getD_eq_getElem?_getD, List.getElem?_eq_getElem hil]; rfl
  have g2 : (itrs ns x d)[j] = z := by rw [← f1, List.getD_eq_getElem?_getD, List.getElem?_eq_getElem hjl]; rfl
  rw [g1, g2]
  exact st.cons_cons z
theorem meet_ring {ns : List Int} (h : Stt ns) {x y : Int} (hx : Per ns x) (hy : Per ns y) : ringF ns x = ringF ns y ↔ ∃ s t, itr ns x s = itr ns y t := meet_iff h.lo hx.1 hx.2 hy.1 hy.2
theorem lead_obs {ns gs : List Int} (h : Stt ns) (sg : Stt gs) (hl : gs.length = ns.length) (hn : obsF ns gs = .none) : Lead ns gs := by
  have gp : ∀ {x : Int}, Per ns x → Per gs x := fun {x} hx => ⟨hx.1, by rw [hl]; exact hx.2⟩
  have pg : ∀ {x : Int}, Per gs x → Per ns x := fun {x} hx => ⟨hx.1, by rw [← hl]; exact hx.2⟩
  unfold obsF at hn
  cases hm : missL ns gs 0 with
  | some x => rw [hm] at hn; cases hn
  | none =>
    rw [hm] at hn
    have hw := (miss_ways hl).mp hm
    have hn2 : (match secondF ns (hds (closedF gs)) with | some (x, y) => PyData.tuple [.str "rings", .int x, .int y] | none => orderF ns (closedF gs)) = .none := hn
    cases hs : secondF ns (hds (closedF gs)) with
    | some p => rw [hs] at hn2; cases hn2
    | none =>
      rw [hs] at hn2
      have sec := second_iff _ hs
      have ordn := orderF_iff _ hn2
      -- the closed ring of somebody on a ring of the goal
      have lap_of : ∀ {x : Int} {c : Nat}, Per ns x → Cyc gs x c → ∃ b, ringF gs x ∈ closedF gs ∧ (ringF gs x).headD 0 = b ∧ Per gs b ∧ Cyc gs b c ∧ ringF gs x = itrs gs b c ∧ b ∈ itrs gs x c ∧ x ∈ itrs gs b c := fun {x c} hx cy => by
        have px := gp hx
        have er := cyc_ring sg px cy
        obtain ⟨c2, e2, cy2, b0, b1⟩ := headF_form sg.lo px.1 px.2
        have bm : headF gs x ∈ itrs gs x c := by
          rw [← mem_turnF, ← er, e2]
          exact itrs_mem.mpr ⟨0, cy2.1, rfl⟩
        have ec := ((cy.at bm).1).uniq cy2
        subst ec
        refine ⟨headF gs x, ((closed_rings sg).2.2 _).mpr ⟨x.toNat, by have := px.1; have := px.2; omega, by rw [show ((x.toNat : Nat) : Int) = x by have := px.1; omega]⟩, rfl, ⟨b0, b1⟩, cy2, e2, bm, ?_⟩
        exact ((cy.at bm).2 x).mpr (itrs_mem.mpr ⟨0, cy.1, rfl⟩)
      refine ⟨(ways_iff h).mp hw, fun x y c c' hx hy cx cy hmt => ?_, fun x c d hx cx dx => ?_⟩
      · obtain ⟨a, a1, a2, a3, a4, a5, a6, a7⟩ := lap_of hx cx
        obtain ⟨b, b1, b2, b3, b4, b5, b6, b7⟩ := lap_of hy cy
        have ra := (ring_per h hx ((ways_on h hw hx cx).2 a a6)).2.1
        have rb := (ring_per h hy ((ways_on h hw hy cy).2 b b6)).2.1
        have e : a = b := sec a (List.mem_map.mpr ⟨_, a1, a2⟩) b (List.mem_map.mpr ⟨_, b1, b2⟩) (by rw [ra, rb]; exact (meet_ring h hx hy).mpr hmt)
        subst e
        have ec := a4.uniq b4
        subst ec
        exact ((cx.at a6).2 y).mp b7
      · obtain ⟨b, b1, b2, b3, b4, b5, b6, b7⟩ := lap_of hx cx
        obtain ⟨f1, f2, f3, f4, f5⟩ := lap_facts h sg hl hw b1
        have br := ordn _ b1
        unfold brokenF at br
        rw [b2] at br f1 f4
        obtain ⟨⟨d2, dn⟩, _⟩ := ways_on h hw f1 b4
        obtain ⟨e1, c2⟩ := own_cyc h f1 dn
        have tl : (ringF gs x).tail = itrs gs (gt gs b) (c - 1) := by rw [b5, itrs_cons b4.1]; rfl
        have ndl := b4.2.2
        rw [itrs_cons b4.1] at ndl
        have nd2 := List.nodup_cons.mp ndl
        have sub : (itrs gs (gt gs b) (c - 1)).Sublist (routeF ns (gt ns b)) := by
          rw [tl] at br
          refine pw_sub _ _ (fun z hz => f4 z ?_) (broken_pw _ nd2.2 (fun z hz => f4 z ?_) br)
          · rw [b5, itrs_cons b4.1]; exact List.mem_cons_of_mem _ hz
          · rw [b5, itrs_cons b4.1]; exact List.mem_cons_of_mem _ hz
        have own2 : routeF ns (gt ns b) = itrs ns (gt ns b) (d2 - 1) ++ [b] := by
          have d0 := dn.1
          rw [e1]
          obtain ⟨M, rfl⟩ : ∃ M, d2 = M + 1 := ⟨d2 - 1, by omega⟩
          rw [Nat.add_sub_cancel, itrs_succ]
          have : itr ns (gt ns b) M = b := by rw [← itr_succ]; exact dn.2.1
          rw [this]
        rw [own2] at sub
        have sub2 : (itrs gs (gt gs b) (c - 1)).Sublist (itrs ns (gt ns b) (d2 - 1)) := by
          obtain ⟨l1, l2, el, s1, s2⟩ := List.sublist_append_iff.mp sub
          have : l2 = [] := by
            cases l2 with
            | nil => rfl
            | cons z r =>
              have hz : z = b := by
                have := s2.subset (List.mem_cons_self)
                simpa using this
              exact absurd (by rw [el, hz]; exact List.mem_append_right _ List.mem_cons_self) nd2.1
          rw [el, this, List.append_nil]
          exact s1
        have full : (itrs gs b c).Sublist (itrs ns b d2) := by
          rw [itrs_cons b4.1, itrs_cons dn.1]
          exact sub2.cons_cons b
        have fx := ord_from b4 dn full b7
        have xin : x ∈ itrs ns b d2 := full.subset b7
        have ed := ((dn.at xin).1).uniq dx
        rw [ed] at fx
        exact fx
theorem obs_lead {ns gs : List Int} (h : Stt ns) (sg : Stt gs) (hl : gs.length = ns.length) (f : Lead ns gs) : obsF ns gs = .none := by
  have pg : ∀ {x : Int}, Per gs x → Per ns x := fun {x} hx => ⟨hx.1, by rw [← hl]; exact hx.2⟩
  have hw := (ways_iff h).mpr f.ways
  unfold obsF
  rw [(miss_ways hl).mpr hw]
  show (match secondF ns (hds (closedF gs)) with | some (x, y) => PyData.tuple [.str "rings", .int x, .int y] | none => orderF ns (closedF gs)) = .none
  rw [second_none _ (closed_heads sg) ?_]
  · show orderF ns (closedF gs) = .none
    refine orderF_none _ fun lap hlap => ?_
    obtain ⟨x, c, hx, cy, el, eh, _⟩ := closed_mem sg hlap
    obtain ⟨⟨d, cn⟩, _⟩ := ways_on h hw (pg hx) cy
    obtain ⟨e1, c2⟩ := own_cyc h (pg hx) cn
    unfold brokenF
    rw [eh]
    refine broken_none (by rw [e1]; exact c2.2.2) _ ?_
    have st := f.ord x c d (pg hx) cy cn
    rw [itrs_cons cy.1, itrs_cons cn.1] at st
    have st2 := List.cons_sublist_cons.mp st
    have et : lap.tail = itrs gs (gt gs x) (c - 1) := by rw [el, itrs_cons cy.1]; rfl
    rw [et, e1]
    refine st2.trans ?_
    obtain ⟨M, rfl⟩ : ∃ M, d = M + 1 := ⟨d - 1, by have := cn.1; omega⟩
    rw [Nat.add_sub_cancel, itrs_succ]
    exact List.sublist_append_left _ _
  · intro a ha b hb e
    obtain ⟨la, hla, rfl⟩ := List.mem_map.mp ha
    obtain ⟨lb, hlb, rfl⟩ := List.mem_map.mp hb
    obtain ⟨x, c, hx, cy, el, eh, er⟩ := closed_mem sg hla
    obtain ⟨y, c', hy, cy', el', eh', er'⟩ := closed_mem sg hlb
    simp only [eh, eh'] at e ⊢
    have yin := f.one x y c c' (pg hx) (pg hy) cy cy' ((meet_ring h (pg hx) (pg hy)).mp e)
    have es : ringF gs x = ringF gs y := by
      rw [cyc_ring sg hx cy, cyc_ring sg hy cy']
      exact cy.same cy' yin (itrs_mem.mpr ⟨0, cy'.1, rfl⟩)
    rw [← eh, ← eh', er, er', es]
theorem lead_iff {ns gs : List Int} (h : Stt ns) (sg : Stt gs) (hl : gs.length = ns.length) : obsF ns gs = .none ↔ Lead ns gs := ⟨lead_obs h sg hl, obs_lead h sg hl⟩
end Lp

namespace Lp
open PySem PySem.Spec PyProof.Rows L2
local macro_rules | `(tactic| rfl') => `(tactic| try dsimp only [dVar_, gv_sh, gv_ow, gv_bx, gv_raw, gv_st, dC, dRaw, dOp, dUn, dTest, dTruth, dAnd, dOr, dNot, dYes, dIf, dAndV, dOrV, dNotV, dNotT, dChain, dNil, dCons, dTup, dLst, dats, dCB, dNoP, dPart, dSl, dNext, dBreak, dCont, dNever, dDrop, dRet, dRetN, dIfS, dSetG, dPar, dPar3, dAppend, dAppPop, dSetIx, dExt, dAug, dSet0, dSAdd, dSNotIn, dIter_, gi_l, gi_t, gi_b, dRng1, dRng2, dName, dGNil, dGCons, dGTup, dAsg, dFor, dWhile, dCall, dCallR, dArgs_, ga_f, ga_t, argsOf, dLc, wipeE, dListRg, dIndex, dSortSet, dSortSc, dEnum, dEnA, dZip, dIsi, dIsi2, isaT, φI, φB, φC, φNeg, add_i, add_l, add_t, mul_i, mul_l, φIx, sl_l, sl_t, eq_i, eq_s, eq_l, eq_t, eq_b, eq_n, φIsN, isN_n, isN_b, isN_i, isN_s, isN_l, isN_t, φLen, φList, φTuple, φAbs, φInt, φMax, φIsB, φIsNB, its_l, its_t, rd_sh, rd_nw, rd_br, rp_sh, rp_nw, rp_br, rp_bx, rp_raw, rp_sr, rr_sh, rr_nw, rr_br, ra_sh, ra_br, ra_bx, ra_raw, va_sh, va_nt, va_nf, va_raw, hb_n, hb_sh, hb_bx, hb_raw, hb_br, sh_n, sh_c, tr_n, tr_b, tr_i, tr_l, tr_t, ty_n, ty_b, ty_i, ty_s, ty_l, ty_t, if_ff, if_tt, Env.set, List.getElem?_cons_succ, List.getElem?_cons_zero, List.set_cons_succ, List.set_cons_zero, List.reverse_cons, List.reverse_nil, List.nil_append, List.cons_append, Option.bind_some, ite_true, ite_false])
def skv (ns : List Int) (w z : Int) : Int := if z = w then gt ns w else z
def skF (ns : List Int) (w : Int) : List Int := ns.map (skv ns w)
abbrev offW (w : Int) (l : List Int) : List Int := l.filter fun z => decide (z ≠ w)
theorem gt_map {ns : List Int} {f : Int → Int} {x : Int} (hx : Per ns x) : gt (ns.map f) x = f (gt ns x) := by
  unfold gt
  have := hx.1; have := hx.2
  rw [List.getD_eq_getElem?_getD, List.getD_eq_getElem?_getD, List.getElem?_map, List.getElem?_eq_getElem (by omega)]; rfl
section
variable {ns : List Int} {w : Int} (h : Stt ns) (hw : Per ns w) (nw : gt ns w ≠ w)
include h hw
include nw
theorem skv_ne (z : Int) : skv ns w z ≠ w := by
  unfold skv
  split
  · exact nw
  · assumption
theorem skv_idem {z : Int} (hz : z ≠ w) : skv ns w z = z := by unfold skv; rw [if_neg hz]
theorem itrs_skip {p : Int} (hp : Per ns p) : ∀ L, ∃ L', offW w (itrs ns p L) = itrs (skF ns w) (skv ns w p) L' ∧ skv ns w (itr ns p L) = itr (skF ns w) (skv ns w p) L' ∧ L' ≤ L
  | 0 => ⟨0, rfl, rfl, Nat.le_refl _⟩
  | L + 1 => by
    obtain ⟨L', e1, e2, e3⟩ := itrs_skip hp L
    have pL : Per ns (itr ns p L) := itr_low h.lo hp.1 hp.2 L
    unfold offW at e1 ⊢
    rw [itrs_succ, List.filter_append]
    by_cases q : itr ns p L = w
    · refine ⟨L', ?_, ?_, by omega⟩
      · rw [List.filter_cons_of_neg (by simp [q]), List.filter_nil, List.append_nil, e1]
      · rw [← e2]
        show skv ns w (gt ns (itr ns p L)) = _
        rw [q, skv_idem h hw nw nw]
        unfold skv
        rw [if_pos rfl]
    · refine ⟨L' + 1, ?_, ?_, by omega⟩
      · rw [List.filter_cons_of_pos (by simp [q]), List.filter_nil, e1, itrs_succ, ← e2, skv_idem h hw nw q]
      · show skv ns w (gt ns (itr ns p L)) = gt (skF ns w) (itr (skF ns w) (skv ns w p) L')
        rw [← e2, skv_idem h hw nw q]
        unfold skF
        rw [gt_map pL]
theorem itr_of_skip {x : Int} (hx : Per ns x) (xw : x ≠ w) : ∀ k, itr (skF ns w) x k ≠ w ∧ ∃ m, k ≤ m ∧ itr (skF ns w) x k = itr ns x m
  | 0 => ⟨xw, 0, Nat.le_refl _, rfl⟩
  | k + 1 => by
    obtain ⟨h1, m, hm, e⟩ := itr_of_skip hx xw k
    have pm : Per ns (itr ns x m) := itr_low h.lo hx.1 hx.2 m
    have e2 : itr (skF ns w) x (k + 1) = skv ns w (gt ns (itr ns x m)) := by
      show gt (skF ns w) (itr (skF ns w) x k) = _
      rw [e]
      unfold skF
      rw [gt_map pm]
    refine ⟨by rw [e2]; exact skv_ne h hw nw _, ?_⟩
    rw [e2]
    unfold skv
    by_cases q : gt ns (itr ns x m) = w
    · rw [if_pos q]
      refine ⟨m + 2, by omega, ?_⟩
      show _ = gt ns (gt ns (itr ns x m))
      rw [q]
    · rw [if_neg q]
      exact ⟨m + 1, by omega, rfl⟩
theorem cyc_skip {x : Int} (hx : Per ns x) (xw : x ≠ w) {c : Nat} (cy : Cyc ns x c) : ∃ c', Cyc (skF ns w) x c' ∧ itrs (skF ns w) x c' = offW w (itrs ns x c) := by
  obtain ⟨L', e1, e2, _⟩ := itrs_skip h hw nw hx c
  rw [skv_idem h hw nw xw] at e1 e2
  rw [cy.2.1, skv_idem h hw nw xw] at e2
  have xin : x ∈ offW w (itrs ns x c) := List.mem_filter.mpr ⟨itrs_mem.mpr ⟨0, cy.1, rfl⟩, by simp [xw]⟩
  refine ⟨L', ⟨?_, e2.symm, ?_⟩, e1.symm⟩
  · rw [e1] at xin
    obtain ⟨i, hi, _⟩ := itrs_mem.mp xin
    omega
  · rw [← e1]; exact cy.2.2.filter _
end
/-- people but w -/
def PerW (ns : List Int) (w : Int) (x : Int) : Prop := Per ns x ∧ x ≠ w
section
variable {gs : List Int} {w : Int}
variable (sg : Stt gs) (two : 2 ≤ gs.length) (hw : Per gs w) (no : ∀ x, PerW gs w x → gt gs x ≠ w)
include sg two hw no
end
end Lp

namespace Lp
open PySem PySem.Spec PyProof.Rows L2
local macro_rules | `(tactic| rfl') => `(tactic| try dsimp only [dVar_, gv_sh, gv_ow, gv_bx, gv_raw, gv_st, dC, dRaw, dOp, dUn, dTest, dTruth, dAnd, dOr, dNot, dYes, dIf, dAndV, dOrV, dNotV, dNotT, dChain, dNil, dCons, dTup, dLst, dats, dCB, dNoP, dPart, dSl, dNext, dBreak, dCont, dNever, dDrop, dRet, dRetN, dIfS, dSetG, dPar, dPar3, dAppend, dAppPop, dSetIx, dExt, dAug, dSet0, dSAdd, dSNotIn, dIter_, gi_l, gi_t, gi_b, dRng1, dRng2, dName, dGNil, dGCons, dGTup, dAsg, dFor, dWhile, dCall, dCallR, dArgs_, ga_f, ga_t, argsOf, dLc, wipeE, dListRg, dIndex, dSortSet, dSortSc, dEnum, dEnA, dZip, dIsi, dIsi2, isaT, φI, φB, φC, φNeg, add_i, add_l, add_t, mul_i, mul_l, φIx, sl_l, sl_t, eq_i, eq_s, eq_l, eq_t, eq_b, eq_n, φIsN, isN_n, isN_b, isN_i, isN_s, isN_l, isN_t, φLen, φList, φTuple, φAbs, φInt, φMax, φIsB, φIsNB, its_l, its_t, rd_sh, rd_nw, rd_br, rp_sh, rp_nw, rp_br, rp_bx, rp_raw, rp_sr, rr_sh, rr_nw, rr_br, ra_sh, ra_br, ra_bx, ra_raw, va_sh, va_nt, va_nf, va_raw, hb_n, hb_sh, hb_bx, hb_raw, hb_br, sh_n, sh_c, tr_n, tr_b, tr_i, tr_l, tr_t, ty_n, ty_b, ty_i, ty_s, ty_l, ty_t, if_ff, if_tt, Env.set, List.getElem?_cons_succ, List.getElem?_cons_zero, List.set_cons_succ, List.set_cons_zero, List.reverse_cons, List.reverse_nil, List.nil_append, List.cons_append, Option.bind_some, ite_true, ite_false])
theorem Und.stt {ns gs : List Int} (h : Stt ns) (u : Und ns.length gs) : Stt gs := ⟨by rw [u.len]; exact u.lo, by rw [u.len]; exact h.le, by rw [u.len]; exact h.ge⟩
end Lp

namespace Lp
open PySem PySem.Spec PyProof.Rows L2
local macro_rules | `(tactic| rfl') => `(tactic| try dsimp only [dVar_, gv_sh, gv_ow, gv_bx, gv_raw, gv_st, dC, dRaw, dOp, dUn, dTest, dTruth, dAnd, dOr, dNot, dYes, dIf, dAndV, dOrV, dNotV, dNotT, dChain, dNil, dCons, dTup, dLst, dats, dCB, dNoP, dPart, dSl, dNext, dBreak, dCont, dNever, dDrop, dRet, dRetN, dIfS, dSetG, dPar, dPar3, dAppend, dAppPop, dSetIx, dExt, dAug, dSet0, dSAdd, dSNotIn, dIter_, gi_l, gi_t, gi_b, dRng1, dRng2, dName, dGNil, dGCons, dGTup, dAsg, dFor, dWhile, dCall, dCallR, dArgs_, ga_f, ga_t, argsOf, dLc, wipeE, dListRg, dIndex, dSortSet, dSortSc, dEnum, dEnA, dZip, dIsi, dIsi2, isaT, φI, φB, φC, φNeg, add_i, add_l, add_t, mul_i, mul_l, φIx, sl_l, sl_t, eq_i, eq_s, eq_l, eq_t, eq_b, eq_n, φIsN, isN_n, isN_b, isN_i, isN_s, isN_l, isN_t, φLen, φList, φTuple, φAbs, φInt, φMax, φIsB, φIsNB, its_l, its_t, rd_sh, rd_nw, rd_br, rp_sh, rp_nw, rp_br, rp_bx, rp_raw, rp_sr, rr_sh, rr_nw, rr_br, ra_sh, ra_br, ra_bx, ra_raw, va_sh, va_nt, va_nf, va_raw, hb_n, hb_sh, hb_bx, hb_raw, hb_br, sh_n, sh_c, tr_n, tr_b, tr_i, tr_l, tr_t, ty_n, ty_b, ty_i, ty_s, ty_l, ty_t, if_ff, if_tt, Env.set, List.getElem?_cons_succ, List.getElem?_cons_zero, List.set_cons_succ, List.set_cons_zero, List.reverse_cons, List.reverse_nil, List.nil_append, List.cons_append, Option.bind_some, ite_true, ite_false])
end Lp

namespace Lp
open PySem PySem.Spec PyProof.Rows L2
local macro_rules | `(tactic| rfl') => `(tactic| try dsimp only [dVar_, gv_sh, gv_ow, gv_bx, gv_raw, gv_st, dC, dRaw, dOp, dUn, dTest, dTruth, dAnd, dOr, dNot, dYes, dIf, dAndV, dOrV, dNotV, dNotT, dChain, dNil, dCons, dTup, dLst, dats, dCB, dNoP, dPart, dSl, dNext, dBreak, dCont, dNever, dDrop, dRet, dRetN, dIfS, dSetG, dPar, dPar3, dAppend, dAppPop, dSetIx, dExt, dAug, dSet0, dSAdd, dSNotIn, dIter_, gi_l, gi_t, gi_b, dRng1, dRng2, dName, dGNil, dGCons, dGTup, dAsg, dFor, dWhile, dCall, dCallR, dArgs_, ga_f, ga_t, argsOf, dLc, wipeE, dListRg, dIndex, dSortSet, dSortSc, dEnum, dEnA, dZip, dIsi, dIsi2, isaT, φI, φB, φC, φNeg, add_i, add_l, add_t, mul_i, mul_l, φIx, sl_l, sl_t, eq_i, eq_s, eq_l, eq_t, eq_b, eq_n, φIsN, isN_n, isN_b, isN_i, isN_s, isN_l, isN_t, φLen, φList, φTuple, φAbs, φInt, φMax, φIsB, φIsNB, its_l, its_t, rd_sh, rd_nw, rd_br, rp_sh, rp_nw, rp_br, rp_bx, rp_raw, rp_sr, rr_sh, rr_nw, rr_br, ra_sh, ra_br, ra_bx, ra_raw, va_sh, va_nt, va_nf, va_raw, hb_n, hb_sh, hb_bx, hb_raw, hb_br, sh_n, sh_c, tr_n, tr_b, tr_i, tr_l, tr_t, ty_n, ty_b, ty_i, ty_s, ty_l, ty_t, if_ff, if_tt, Env.set, List.getElem?_cons_succ, List.getElem?_cons_zero, List.set_cons_succ, List.set_cons_zero, List.reverse_cons, List.reverse_nil, List.nil_append, List.cons_append, Option.bind_some, ite_true, ite_false])
end Lp

namespace Lp
open PySem PySem.Spec PyProof.Rows L2
local macro_rules | `(tactic| rfl') => `(tactic| try dsimp only [dVar_, gv_sh, gv_ow, gv_bx, gv_raw, gv_st, dC, dRaw, dOp, dUn, dTest, dTruth, dAnd, dOr, dNot, dYes, dIf, dAndV, dOrV, dNotV, dNotT, dChain, dNil, dCons, dTup, dLst, dats, dCB, dNoP, dPart, dSl, dNext, dBreak, dCont, dNever, dDrop, dRet, dRetN, dIfS, dSetG, dPar, dPar3, dAppend, dAppPop, dSetIx, dExt, dAug, dSet0, dSAdd, dSNotIn, dIter_, gi_l, gi_t, gi_b, dRng1, dRng2, dName, dGNil, dGCons, dGTup, dAsg, dFor, dWhile, dCall, dCallR, dArgs_, ga_f, ga_t, argsOf, dLc, wipeE, dListRg, dIndex, dSortSet, dSortSc, dEnum, dEnA, dZip, dIsi, dIsi2, isaT, φI, φB, φC, φNeg, add_i, add_l, add_t, mul_i, mul_l, φIx, sl_l, sl_t, eq_i, eq_s, eq_l, eq_t, eq_b, eq_n, φIsN, isN_n, isN_b, isN_i, isN_s, isN_l, isN_t, φLen, φList, φTuple, φAbs, φInt, φMax, φIsB, φIsNB, its_l, its_t, rd_sh, rd_nw, rd_br, rp_sh, rp_nw, rp_br, rp_bx, rp_raw, rp_sr, rr_sh, rr_nw, rr_br, ra_sh, ra_br, ra_bx, ra_raw, va_sh, va_nt, va_nf, va_raw, hb_n, hb_sh, hb_bx, hb_raw, hb_br, sh_n, sh_c, tr_n, tr_b, tr_i, tr_l, tr_t, ty_n, ty_b, ty_i, ty_s, ty_l, ty_t, if_ff, if_tt, Env.set, List.getElem?_cons_succ, List.getElem?_cons_zero, List.set_cons_succ, List.set_cons_zero, List.reverse_cons, List.reverse_nil, List.nil_append, List.cons_append, Option.bind_some, ite_true, ite_false])
theorem lead_refl {ns : List Int} (h : Stt ns) : Lead ns ns := (lead_iff h h rfl).mp (fut_clear h (Fut.self h))
theorem lead_on {a b : List Int} (ha : Stt a) (f : Lead a b) {x : Int} (hx : Per a x) {c : Nat} (cy : Cyc b x c) : ∃ d, Cyc a x d := (ways_on ha ((ways_iff ha).mpr f.ways) hx cy).1
theorem lead_itr {a b : List Int} (ha : Stt a) (f : Lead a b) {x : Int} (hx : Per a x) (k : Nat) : ∃ m, k ≤ m ∧ itr b x k = itr a x m := ways_itr ha ((ways_iff ha).mpr f.ways) hx k
theorem lead_trans {a b c : List Int} (ha : Stt a) (hb : Stt b) (hl : b.length = a.length) (f : Lead a b) (g : Lead b c) : Lead a c := by
  have ab : ∀ {x : Int}, Per a x → Per b x := fun {x} hx => ⟨hx.1, by rw [hl]; exact hx.2⟩
  refine ⟨fun x hx => ?_, fun x y k k' hx hy cx cy hm => ?_, fun x k d hx cx dx => ?_⟩
  · obtain ⟨m, m0, e⟩ := g.ways x (ab hx)
    obtain ⟨M, hM, e2⟩ := lead_itr ha f hx m
    exact ⟨M, by omega, by rw [e, e2]⟩
  · obtain ⟨d, dx⟩ := lead_on hb g (ab hx) cx
    obtain ⟨d', dy⟩ := lead_on hb g (ab hy) cy
    have := f.one x y d d' hx hy dx dy hm
    obtain ⟨i, _, e⟩ := itrs_mem.mp this
    exact g.one x y k k' (ab hx) (ab hy) cx cy ⟨i, 0, e⟩
  · obtain ⟨e, ex⟩ := lead_on hb g (ab hx) cx
    exact (g.ord x k e (ab hx) cx ex).trans (f.ord x e d hx ex dx)
section
variable {a : List Int} {w : Int} (h : Stt a) (hw : Per a w)
include h hw
theorem call_gt {p : Int} (p0 : 0 ≤ p) : gt (call1 a w) p = if p = w then gt a (gt a w) else gt a p := gt_callN hw.1 hw.2 p0
theorem call_per {x : Int} : Per (call1 a w) x ↔ Per a x := by unfold Per; rw [call1_len]
theorem call_ways : ∀ x, Per a x → ∃ m, 0 < m ∧ gt (call1 a w) x = itr a x m := fun x hx => by
  rw [call_gt h hw hx.1]
  by_cases q : x = w
  · rw [if_pos q, q]; exact ⟨2, by omega, rfl⟩
  · rw [if_neg q]; exact ⟨1, by omega, rfl⟩
theorem call_itr {x : Int} (hx : Per a x) (k : Nat) : ∃ m, k ≤ m ∧ itr (call1 a w) x k = itr a x m := ways_itr h ((ways_iff h).mpr (call_ways h hw)) hx k
theorem call_same {x : Int} (hx : Per a x) : ∀ k, (∀ j, j < k → itr a x j ≠ w) → itr (call1 a w) x k = itr a x k
  | 0, _ => rfl
  | k + 1, hk => by
    have ih := call_same hx k fun j hj => hk j (by omega)
    show gt (call1 a w) (itr (call1 a w) x k) = gt a (itr a x k)
    rw [ih, call_gt h hw (itr_low h.lo hx.1 hx.2 k).1, if_neg (hk k (by omega))]
theorem call_cyc_off {x : Int} (hx : Per a x) {d : Nat} (cy : Cyc a x d) (nw : w ∉ itrs a x d) : Cyc (call1 a w) x d ∧ itrs (call1 a w) x d = itrs a x d := by
  have same : ∀ k, itr (call1 a w) x k = itr a x k := fun k => call_same h hw hx k fun j _ e => nw (by rw [← e]; exact cy.all j)
  have e : itrs (call1 a w) x d = itrs a x d := by unfold itrs; exact List.map_congr_left fun k _ => same k
  exact ⟨⟨cy.1, by rw [same]; exact cy.2.1, by rw [e]; exact cy.2.2⟩, e⟩
/-- on a ring, only one points at each -/
theorem pred_one {x z y : Int} {d : Nat} (cy : Cyc a x d) (hz : z ∈ itrs a x d) (hy : y ∈ itrs a x d) (e : gt a z = gt a y) : z = y := by
  obtain ⟨i, hi, rfl⟩ := itrs_mem.mp hz
  obtain ⟨j, hj, rfl⟩ := itrs_mem.mp hy
  have e2 : itr a x (i + 1) = itr a x (j + 1) := e
  have key : ∀ i j, i < d → j < d → i + 1 < d → itr a x (i + 1) = itr a x (j + 1) → i = j := fun i j hi hj hi1 e => by
    by_cases q : j + 1 < d
    · have := itrs_apart cy.2.2 hi1 q e; omega
    · have : j + 1 = d := by omega
      rw [this, cy.2.1] at e
      have := itrs_apart cy.2.2 hi1 cy.1 (show itr a x (i + 1) = itr a x 0 from e)
      omega
  by_cases q : i + 1 < d
  · rw [key i j hi hj q e2]
  · by_cases q2 : j + 1 < d
    · rw [key j i hj hi q2 e2.symm]
    · rw [show i = j by omega]
/-- who is looked past on a ring is off the rings -/
theorem call_off {d : Nat} (cy : Cyc a w d) (nv : gt a (gt a w) ≠ gt a w) {c : Nat} : ¬ Cyc (call1 a w) (gt a w) c := fun cg => by
  have hv := h.gt hw
  have cv := (cy.at (cy.all 1)).1
  have mem := (cy.at (cy.all 1)).2
  have e := cg.2.1
  have hc := cg.1
  have : c = c - 1 + 1 := by omega
  rw [this] at e
  obtain ⟨m, _, em⟩ := call_itr h hw hv (c - 1)
  have e2 : gt (call1 a w) (itr (call1 a w) (gt a w) (c - 1)) = gt a w := e
  rw [em] at e2
  have pz : Per a (itr a (gt a w) m) := itr_low h.lo hv.1 hv.2 m
  rw [call_gt h hw pz.1] at e2
  by_cases q : itr a (gt a w) m = w
  · rw [if_pos q] at e2; exact nv e2
  · rw [if_neg q] at e2
    have zin : itr a (gt a w) m ∈ itrs a w d := (mem _).mp (cv.all m)
    exact q (pred_one h hw cy zin (itrs_mem.mpr ⟨0, cy.1, rfl⟩) e2)
/-- the ring of w, without whom w looks past -/
theorem call_ring {d : Nat} (cw : Cyc a w d) (nv : gt a (gt a w) ≠ gt a w) {x : Int} (hx : Per a x) (xin : x ∈ itrs a w d) (xv : x ≠ gt a w) : ∃ c, Cyc (call1 a w) x c ∧ itrs (call1 a w) x c = offW (gt a w) (itrs a x d) ∧ c + 1 = d := by
  have hv := h.gt hw
  have cx := (cw.at xin).1
  have mem := (cw.at xin).2
  have win : w ∈ itrs a x d := (mem w).mpr (itrs_mem.mpr ⟨0, cw.1, rfl⟩)
  obtain ⟨c, cs, es⟩ := cyc_skip h hv nv hx xv cx
  have same : ∀ k, itr (call1 a w) x k = itr (skF a (gt a w)) x k := by
    intro k
    induction k with
    | zero => rfl
    | succ k ih =>
      show gt (call1 a w) (itr (call1 a w) x k) = gt (skF a (gt a w)) (itr (skF a (gt a w)) x k)
      rw [ih]
      obtain ⟨ne, m, _, em⟩ := itr_of_skip h hv nv hx xv k
      rw [em] at ne ⊢
      have pz : Per a (itr a x m) := itr_low h.lo hx.1 hx.2 m
      have zin := cx.all m
      unfold skF
      rw [gt_map pz, call_gt h hw pz.1]
      unfold skv
      by_cases q : itr a x m = w
      · rw [if_pos q, q, if_pos rfl]
      · rw [if_neg q, if_neg fun z => q (pred_one h hw cx zin win z)]
  have e : itrs (call1 a w) x c = itrs (skF a (gt a w)) x c := by unfold itrs; exact List.map_congr_left fun k _ => same k
  refine ⟨c, ⟨cs.1, by rw [same]; exact cs.2.1, by rw [e]; exact cs.2.2⟩, by rw [e, es], ?_⟩
  have l1 := congrArg List.length es
  rw [itrs_len] at l1
  have vin : gt a w ∈ itrs a x d := (mem _).mpr (cw.all 1)
  obtain ⟨p, q, epq⟩ := List.append_of_mem vin
  have nd := cx.2.2
  rw [epq] at nd
  have n1 := List.nodup_append.mp nd
  have n2 := List.nodup_cons.mp n1.2.1
  have l2 := congrArg List.length epq
  rw [itrs_len, List.length_append, List.length_cons] at l2
  rw [l1, epq]
  unfold offW
  rw [List.filter_append, List.filter_cons_of_neg (by simp), List.filter_eq_self.mpr fun z hz => ?_, List.filter_eq_self.mpr fun z hz => ?_, List.length_append]
  · omega
  · rw [decide_eq_true]
    intro e; exact n2.1 (by rw [← e]; exact hz)
  · rw [decide_eq_true]
    intro e; exact n1.2.2 z hz _ List.mem_cons_self e
theorem lead_call : Lead a (call1 a w) := by
  refine ⟨call_ways h hw, fun x y c c' hx hy cx cy hm => ?_, fun x c d hx cx dx => ?_⟩
  · have hg := h.call hw
    have px := (call_per h hw).mpr hx
    have py := (call_per h hw).mpr hy
    have e := (ring_call h.lo hw.1 hw.2 hx.1 hx.2 hy.1 hy.2).mp ((meet_ring h hx hy).mpr hm)
    have yin := (on_iff hg py).mpr ⟨c', cy⟩
    rw [← e, cyc_ring hg px cx, mem_turnF] at yin
    exact yin
  · by_cases win : w ∈ itrs a x d
    · by_cases nv : gt a (gt a w) = gt a w
      · have e : call1 a w = a := (call1_idle hw.1 hw.2).mpr nv
        rw [e] at cx ⊢
        rw [cx.uniq dx]
        exact List.Sublist.refl _
      · have cw := (dx.at win).1
        have xin : x ∈ itrs a w d := ((dx.at win).2 x).mpr (itrs_mem.mpr ⟨0, dx.1, rfl⟩)
        have xv : x ≠ gt a w := fun z => call_off h hw cw nv (by rw [z] at cx; exact cx)
        obtain ⟨c2, k1, k2, _⟩ := call_ring h hw cw nv hx xin xv
        rw [cx.uniq k1, k2]
        exact List.filter_sublist
    · obtain ⟨k1, k2⟩ := call_cyc_off h hw hx dx win
      rw [cx.uniq k1, k2]
      exact List.Sublist.refl _
end
theorem lead_calls : ∀ (ws : List Int) {a : List Int}, Stt a → Low a.length ws → Lead a (callAll a ws)
  | [], a, h, _ => lead_refl h
  | w :: ws, a, h, hw => by
    have pw : Per a w := hw w List.mem_cons_self
    have hg := h.call pw
    exact lead_trans h hg (call1_len a w) (lead_call h pw) (lead_calls ws hg fun z hz => by rw [call1_len]; exact hw z (List.mem_cons_of_mem _ hz))
section
variable {a : List Int} {w : Int} (h : Stt a) (hw : Per a w)
include h hw
end
end Lp

namespace Lp
open PySem PySem.Spec PyProof.Rows L2
local macro_rules | `(tactic| rfl') => `(tactic| try dsimp only [dVar_, gv_sh, gv_ow, gv_bx, gv_raw, gv_st, dC, dRaw, dOp, dUn, dTest, dTruth, dAnd, dOr, dNot, dYes, dIf, dAndV, dOrV, dNotV, dNotT, dChain, dNil, dCons, dTup, dLst, dats, dCB, dNoP, dPart, dSl, dNext, dBreak, dCont, dNever, dDrop, dRet, dRetN, dIfS, dSetG, dPar, dPar3, dAppend, dAppPop, dSetIx, dExt, dAug, dSet0, dSAdd, dSNotIn, dIter_, gi_l, gi_t, gi_b, dRng1, dRng2, dName, dGNil, dGCons, dGTup, dAsg, dFor, dWhile, dCall, dCallR, dArgs_, ga_f, ga_t, argsOf, dLc, wipeE, dListRg, dIndex, dSortSet, dSortSc, dEnum, dEnA, dZip, dIsi, dIsi2, isaT, φI, φB, φC, φNeg, add_i, add_l, add_t, mul_i, mul_l, φIx, sl_l, sl_t, eq_i, eq_s, eq_l, eq_t, eq_b, eq_n, φIsN, isN_n, isN_b, isN_i, isN_s, isN_l, isN_t, φLen, φList, φTuple, φAbs, φInt, φMax, φIsB, φIsNB, its_l, its_t, rd_sh, rd_nw, rd_br, rp_sh, rp_nw, rp_br, rp_bx, rp_raw, rp_sr, rr_sh, rr_nw, rr_br, ra_sh, ra_br, ra_bx, ra_raw, va_sh, va_nt, va_nf, va_raw, hb_n, hb_sh, hb_bx, hb_raw, hb_br, sh_n, sh_c, tr_n, tr_b, tr_i, tr_l, tr_t, ty_n, ty_b, ty_i, ty_s, ty_l, ty_t, if_ff, if_tt, Env.set, List.getElem?_cons_succ, List.getElem?_cons_zero, List.set_cons_succ, List.set_cons_zero, List.reverse_cons, List.reverse_nil, List.nil_append, List.cons_append, Option.bind_some, ite_true, ite_false])
section
variable {a : List Int} {w : Int} (h : Stt a) (hw : Per a w)
include h hw
end
end Lp

namespace Lp
open PySem PySem.Spec PyProof.Rows L2
local macro_rules | `(tactic| rfl') => `(tactic| try dsimp only [dVar_, gv_sh, gv_ow, gv_bx, gv_raw, gv_st, dC, dRaw, dOp, dUn, dTest, dTruth, dAnd, dOr, dNot, dYes, dIf, dAndV, dOrV, dNotV, dNotT, dChain, dNil, dCons, dTup, dLst, dats, dCB, dNoP, dPart, dSl, dNext, dBreak, dCont, dNever, dDrop, dRet, dRetN, dIfS, dSetG, dPar, dPar3, dAppend, dAppPop, dSetIx, dExt, dAug, dSet0, dSAdd, dSNotIn, dIter_, gi_l, gi_t, gi_b, dRng1, dRng2, dName, dGNil, dGCons, dGTup, dAsg, dFor, dWhile, dCall, dCallR, dArgs_, ga_f, ga_t, argsOf, dLc, wipeE, dListRg, dIndex, dSortSet, dSortSc, dEnum, dEnA, dZip, dIsi, dIsi2, isaT, φI, φB, φC, φNeg, add_i, add_l, add_t, mul_i, mul_l, φIx, sl_l, sl_t, eq_i, eq_s, eq_l, eq_t, eq_b, eq_n, φIsN, isN_n, isN_b, isN_i, isN_s, isN_l, isN_t, φLen, φList, φTuple, φAbs, φInt, φMax, φIsB, φIsNB, its_l, its_t, rd_sh, rd_nw, rd_br, rp_sh, rp_nw, rp_br, rp_bx, rp_raw, rp_sr, rr_sh, rr_nw, rr_br, ra_sh, ra_br, ra_bx, ra_raw, va_sh, va_nt, va_nf, va_raw, hb_n, hb_sh, hb_bx, hb_raw, hb_br, sh_n, sh_c, tr_n, tr_b, tr_i, tr_l, tr_t, ty_n, ty_b, ty_i, ty_s, ty_l, ty_t, if_ff, if_tt, Env.set, List.getElem?_cons_succ, List.getElem?_cons_zero, List.set_cons_succ, List.set_cons_zero, List.reverse_cons, List.reverse_nil, List.nil_append, List.cons_append, Option.bind_some, ite_true, ite_false])
end Lp

namespace Lp
open PySem PySem.Spec PyProof.Rows L2
local macro_rules | `(tactic| rfl') => `(tactic| try dsimp only [dVar_, gv_sh, gv_ow, gv_bx, gv_raw, gv_exn, gv_st, dC, dRaw, dOp, dUn, dTest, dTruth, dAnd, dOr, dNot, dYes, dIf, dAndV, dOrV, dNotV, dNotT, dChain, dNil, dCons, dTup, dLst, dats, dCB, dNoP, dPart, dSl, dNext, dBreak, dCont, dNever, dDrop, dRet, dRetN, dIfS, dSetG, dPar, dPar3, dAppend, dAppPop, dSetIx, dExt, dAug, dSet0, dSAdd, dSNotIn, dIter_, gi_l, gi_t, gi_b, dRng1, dRng2, dName, dGNil, dGCons, dGTup, dAsg, dFor, dWhile, dCall, dCallR, dArgs_, ga_f, ga_t, argsOf, dLc, wipeE, dListRg, dIndex, dSortSet, dSortSc, dEnum, dEnA, dZip, dIsi, dIsi2, isaT, φI, φB, φC, φNeg, add_i, add_l, add_t, mul_i, mul_l, φIx, sl_l, sl_t, eq_i, eq_s, eq_l, eq_t, eq_b, eq_n, φIsN, isN_n, isN_b, isN_i, isN_s, isN_l, isN_t, φLen, φList, φTuple, φAbs, φInt, φMax, φIsB, φIsNB, its_l, its_t, rd_sh, rd_nw, rd_br, rp_sh, rp_nw, rp_br, rp_bx, rp_raw, rp_sr, rr_sh, rr_nw, rr_br, ra_sh, ra_br, ra_bx, ra_raw, va_sh, va_nt, va_nf, va_raw, hb_n, hb_sh, hb_bx, hb_raw, hb_br, sh_n, sh_c, tr_n, tr_b, tr_i, tr_l, tr_t, ty_n, ty_b, ty_i, ty_s, ty_l, ty_t, if_ff, if_tt, Env.set, List.getElem?_cons_succ, List.getElem?_cons_zero, List.set_cons_succ, List.set_cons_zero, List.reverse_cons, List.reverse_nil, List.nil_append, List.cons_append, Option.bind_some, ite_true, ite_false])
/-- kept: value -/
def b_kept : DTS := (dRet (dIf (dTruth (dIsi "list" (dVar 0))) (dCB φTuple (dCons (dVar 0) dNil)) (dVar 0)))
abbrev k_kept : Nat := 0
def p_kept : DSp := fun _ _ _ => False
theorem m_kept : ∀ args c Q, p_kept args c Q → defF k_kept b_kept args c Q := fun _ _ _ h => h.elim
end Lp

namespace Lp
open PySem PySem.Spec PyProof.Rows L2
local macro_rules | `(tactic| rfl') => `(tactic| try dsimp only [dVar_, gv_sh, gv_ow, gv_bx, gv_raw, gv_exn, gv_st, dC, dRaw, dOp, dUn, dTest, dTruth, dAnd, dOr, dNot, dYes, dIf, dAndV, dOrV, dNotV, dNotT, dChain, dNil, dCons, dTup, dLst, dats, dCB, dNoP, dPart, dSl, dNext, dBreak, dCont, dNever, dDrop, dRet, dRetN, dIfS, dSetG, dPar, dPar3, dAppend, dAppPop, dSetIx, dExt, dAug, dSet0, dSAdd, dSNotIn, dIter_, gi_l, gi_t, gi_b, dRng1, dRng2, dName, dGNil, dGCons, dGTup, dAsg, dFor, dWhile, dCall, dCallR, dArgs_, ga_f, ga_t, argsOf, dLc, wipeE, dListRg, dIndex, dSortSet, dSortSc, dEnum, dEnA, dZip, dIsi, dIsi2, isaT, φI, φB, φC, φNeg, add_i, add_l, add_t, mul_i, mul_l, φIx, sl_l, sl_t, eq_i, eq_s, eq_l, eq_t, eq_b, eq_n, φIsN, isN_n, isN_b, isN_i, isN_s, isN_l, isN_t, φLen, φList, φTuple, φAbs, φInt, φMax, φIsB, φIsNB, its_l, its_t, rd_sh, rd_nw, rd_br, rp_sh, rp_nw, rp_br, rp_bx, rp_raw, rp_sr, rr_sh, rr_nw, rr_br, ra_sh, ra_br, ra_bx, ra_raw, va_sh, va_nt, va_nf, va_raw, hb_n, hb_sh, hb_bx, hb_raw, hb_br, sh_n, sh_c, tr_n, tr_b, tr_i, tr_l, tr_t, ty_n, ty_b, ty_i, ty_s, ty_l, ty_t, if_ff, if_tt, Env.set, List.getElem?_cons_succ, List.getElem?_cons_zero, List.set_cons_succ, List.set_cons_zero, List.reverse_cons, List.reverse_nil, List.nil_append, List.cons_append, Option.bind_some, ite_true, ite_false])
end Lp

namespace Lp
open PySem PySem.Spec PyProof.Rows L2
local macro_rules | `(tactic| rfl') => `(tactic| try dsimp only [dVar_, gv_sh, gv_ow, gv_bx, gv_raw, gv_st, dC, dRaw, dOp, dUn, dTest, dTruth, dAnd, dOr, dNot, dYes, dIf, dAndV, dOrV, dNotV, dNotT, dChain, dNil, dCons, dTup, dLst, dats, dCB, dNoP, dPart, dSl, dNext, dBreak, dCont, dNever, dDrop, dRet, dRetN, dIfS, dSetG, dPar, dPar3, dAppend, dAppPop, dSetIx, dExt, dAug, dSet0, dSAdd, dSNotIn, dIter_, gi_l, gi_t, gi_b, dRng1, dRng2, dName, dGNil, dGCons, dGTup, dAsg, dFor, dWhile, dCall, dCallR, dArgs_, ga_f, ga_t, argsOf, dLc, wipeE, dListRg, dIndex, dSortSet, dSortSc, dEnum, dEnA, dZip, dIsi, dIsi2, isaT, φI, φB, φC, φNeg, add_i, add_l, add_t, mul_i, mul_l, φIx, sl_l, sl_t, eq_i, eq_s, eq_l, eq_t, eq_b, eq_n, φIsN, isN_n, isN_b, isN_i, isN_s, isN_l, isN_t, φLen, φList, φTuple, φAbs, φInt, φMax, φIsB, φIsNB, its_l, its_t, rd_sh, rd_nw, rd_br, rp_sh, rp_nw, rp_br, rp_bx, rp_raw, rp_sr, rr_sh, rr_nw, rr_br, ra_sh, ra_br, ra_bx, ra_raw, va_sh, va_nt, va_nf, va_raw, hb_n, hb_sh, hb_bx, hb_raw, hb_br, sh_n, sh_c, tr_n, tr_b, tr_i, tr_l, tr_t, ty_n, ty_b, ty_i, ty_s, ty_l, ty_t, if_ff, if_tt, Env.set, List.getElem?_cons_succ, List.getElem?_cons_zero, List.set_cons_succ, List.set_cons_zero, List.reverse_cons, List.reverse_nil, List.nil_append, List.cons_append, Option.bind_some, ite_true, ite_false])
/-- new numbers for n people -/
structure Tags (n : Nat) (ts : List Int) : Prop where
  len : ts.length = n
  nd : ts.Nodup
  lo : Low n ts
theorem Tags.per {n : Nat} {ts : List Int} (T : Tags n ts) {x : Int} (x0 : 0 ≤ x) (x1 : x < (n : Int)) : 0 ≤ gt ts x ∧ gt ts x < (n : Int) := gt_low T.lo x0 (by rw [T.len]; exact x1)
theorem Tags.inj {n : Nat} {ts : List Int} (T : Tags n ts) {x y : Int} (x0 : 0 ≤ x) (x1 : x < (n : Int)) (y0 : 0 ≤ y) (y1 : y < (n : Int)) (e : gt ts x = gt ts y) : x = y := by
  have h1 := gt_get (ns := ts) x0 (by rw [T.len]; exact x1)
  have h2 := gt_get (ns := ts) y0 (by rw [T.len]; exact y1)
  rw [e] at h1
  have := nd_ix T.nd h1 h2
  omega
/-- everybody has the number of somebody -/
theorem Tags.onto {n : Nat} {ts : List Int} (T : Tags n ts) {y : Int} (y0 : 0 ≤ y) (y1 : y < (n : Int)) : ∃ x, 0 ≤ x ∧ x < (n : Int) ∧ gt ts x = y := by
  have key : ∀ j : Nat, j < n → (j : Int) ∈ ts := by
    intro j hj
    by_cases q : (j : Int) ∈ ts
    · exact q
    · exfalso
      have h2 := nd_subG ts (((List.range n).map fun i : Nat => (i : Int)).erase (j : Int)) T.nd fun z hz => by
        have nd : ((List.range n).map fun i : Nat => (i : Int)).Nodup := List.pairwise_map.mpr (List.nodup_range.imp fun {a b} hab e => hab (by omega))
        rw [nd.mem_erase_iff]
        refine ⟨fun e => q (by rw [← e]; exact hz), List.mem_map.mpr ⟨z.toNat, List.mem_range.mpr ?_, ?_⟩⟩
        · have := T.lo z hz; omega
        · have := T.lo z hz; omega
      rw [List.length_erase_of_mem (List.mem_map.mpr ⟨j, List.mem_range.mpr hj, rfl⟩), List.length_map, List.length_range, T.len] at h2
      omega
  have hm := key y.toNat (by omega)
  rw [show ((y.toNat : Nat) : Int) = y by omega] at hm
  obtain ⟨i, hi, e⟩ := List.mem_iff_getElem.mp hm
  exact ⟨i, Int.natCast_nonneg i, by rw [← T.len]; omega, by rw [gt_nat hi]; exact e⟩
/-- a state and the state with other numbers -/
structure Ren (ts a r : List Int) : Prop where
  T : Tags a.length ts
  len : r.length = a.length
  to : ∀ x, Per a x → gt r (gt ts x) = gt ts (gt a x)
section
variable {ts a r : List Int} (h : Stt a) (R : Ren ts a r)
include h R
theorem Ren.tp {x : Int} (hx : Per a x) : Per r (gt ts x) := by
  have := R.T.per hx.1 hx.2
  exact ⟨this.1, by rw [R.len]; exact this.2⟩
theorem Ren.onto {y : Int} (hy : Per r y) : ∃ x, Per a x ∧ gt ts x = y := by
  obtain ⟨x, x0, x1, e⟩ := R.T.onto hy.1 (by rw [← R.len]; exact hy.2)
  exact ⟨x, ⟨x0, x1⟩, e⟩
theorem Ren.inj {x y : Int} (hx : Per a x) (hy : Per a y) (e : gt ts x = gt ts y) : x = y := R.T.inj hx.1 hx.2 hy.1 hy.2 e
theorem Ren.stt : Stt r := by
  refine ⟨fun z hz => ?_, by rw [R.len]; exact h.le, by rw [R.len]; exact h.ge⟩
  obtain ⟨i, hi, rfl⟩ := List.mem_iff_getElem.mp hz
  obtain ⟨x, px, e⟩ := Ren.onto h R (per_nat hi)
  rw [← gt_nat hi, ← e, R.to x px]
  exact Ren.tp h R (h.gt px)
theorem Ren.wk {x : Int} (hx : Per a x) : ∀ k, itr r (gt ts x) k = gt ts (itr a x k)
  | 0 => rfl
  | k + 1 => by
    show gt r (itr r (gt ts x) k) = gt ts (gt a (itr a x k))
    rw [Ren.wk hx k, R.to _ (itr_low h.lo hx.1 hx.2 k)]
theorem Ren.ws {x : Int} (hx : Per a x) (c : Nat) : itrs r (gt ts x) c = (itrs a x c).map (gt ts) := by
  unfold itrs
  rw [List.map_map]
  exact List.map_congr_left fun k _ => Ren.wk h R hx k
theorem Ren.nodup {l : List Int} (hl : ∀ z ∈ l, Per a z) : (l.map (gt ts)).Nodup ↔ l.Nodup := by
  constructor
  · intro q
    exact (List.pairwise_map.mp q).imp fun {x y} hab e => hab (by rw [e])
  · intro q
    exact List.pairwise_map.mpr (List.Pairwise.imp_of_mem (fun {x y} hx hy hab e => hab (Ren.inj h R (hl x hx) (hl y hy) e)) q)
theorem Ren.mem {l : List Int} (hl : ∀ z ∈ l, Per a z) {x : Int} (hx : Per a x) : gt ts x ∈ l.map (gt ts) ↔ x ∈ l := by
  rw [List.mem_map]
  constructor
  · rintro ⟨z, hz, e⟩
    rw [← Ren.inj h R (hl z hz) hx e]; exact hz
  · intro q; exact ⟨x, q, rfl⟩
theorem Ren.low {x : Int} (hx : Per a x) (c : Nat) : ∀ z ∈ itrs a x c, Per a z := fun z hz => by
  obtain ⟨i, _, rfl⟩ := itrs_mem.mp hz
  exact itr_low h.lo hx.1 hx.2 i
end
end Lp

namespace Lp
open PySem PySem.Spec PyProof.Rows L2
local macro_rules | `(tactic| rfl') => `(tactic| try dsimp only [dVar_, gv_sh, gv_ow, gv_bx, gv_raw, gv_st, dC, dRaw, dOp, dUn, dTest, dTruth, dAnd, dOr, dNot, dYes, dIf, dAndV, dOrV, dNotV, dNotT, dChain, dNil, dCons, dTup, dLst, dats, dCB, dNoP, dPart, dSl, dNext, dBreak, dCont, dNever, dDrop, dRet, dRetN, dIfS, dSetG, dPar, dPar3, dAppend, dAppPop, dSetIx, dExt, dAug, dSet0, dSAdd, dSNotIn, dIter_, gi_l, gi_t, gi_b, dRng1, dRng2, dName, dGNil, dGCons, dGTup, dAsg, dFor, dWhile, dCall, dCallR, dArgs_, ga_f, ga_t, argsOf, dLc, wipeE, dListRg, dIndex, dSortSet, dSortSc, dEnum, dEnA, dZip, dIsi, dIsi2, isaT, φI, φB, φC, φNeg, add_i, add_l, add_t, mul_i, mul_l, φIx, sl_l, sl_t, eq_i, eq_s, eq_l, eq_t, eq_b, eq_n, φIsN, isN_n, isN_b, isN_i, isN_s, isN_l, isN_t, φLen, φList, φTuple, φAbs, φInt, φMax, φIsB, φIsNB, its_l, its_t, rd_sh, rd_nw, rd_br, rp_sh, rp_nw, rp_br, rp_bx, rp_raw, rp_sr, rr_sh, rr_nw, rr_br, ra_sh, ra_br, ra_bx, ra_raw, va_sh, va_nt, va_nf, va_raw, hb_n, hb_sh, hb_bx, hb_raw, hb_br, sh_n, sh_c, tr_n, tr_b, tr_i, tr_l, tr_t, ty_n, ty_b, ty_i, ty_s, ty_l, ty_t, if_ff, if_tt, Env.set, List.getElem?_cons_succ, List.getElem?_cons_zero, List.set_cons_succ, List.set_cons_zero, List.reverse_cons, List.reverse_nil, List.nil_append, List.cons_append, Option.bind_some, ite_true, ite_false])
structure ApartF (a b : List Int) (x y : Int) : Prop where
  px : Per a x
  py : Per a y
  cx : ∃ c, Cyc b x c
  cy : ∃ c, Cyc b y c
  ne : ringF b x ≠ ringF b y
  eq : ringF a x = ringF a y
end Lp

namespace Lp
open PySem PySem.Spec PyProof.Rows L2
local macro_rules | `(tactic| rfl') => `(tactic| try dsimp only [dVar_, gv_sh, gv_ow, gv_bx, gv_raw, gv_st, dC, dRaw, dOp, dUn, dTest, dTruth, dAnd, dOr, dNot, dYes, dIf, dAndV, dOrV, dNotV, dNotT, dChain, dNil, dCons, dTup, dLst, dats, dCB, dNoP, dPart, dSl, dNext, dBreak, dCont, dNever, dDrop, dRet, dRetN, dIfS, dSetG, dPar, dPar3, dAppend, dAppPop, dSetIx, dExt, dAug, dSet0, dSAdd, dSNotIn, dIter_, gi_l, gi_t, gi_b, dRng1, dRng2, dName, dGNil, dGCons, dGTup, dAsg, dFor, dWhile, dCall, dCallR, dArgs_, ga_f, ga_t, argsOf, dLc, wipeE, dListRg, dIndex, dSortSet, dSortSc, dEnum, dEnA, dZip, dIsi, dIsi2, isaT, φI, φB, φC, φNeg, add_i, add_l, add_t, mul_i, mul_l, φIx, sl_l, sl_t, eq_i, eq_s, eq_l, eq_t, eq_b, eq_n, φIsN, isN_n, isN_b, isN_i, isN_s, isN_l, isN_t, φLen, φList, φTuple, φAbs, φInt, φMax, φIsB, φIsNB, its_l, its_t, rd_sh, rd_nw, rd_br, rp_sh, rp_nw, rp_br, rp_bx, rp_raw, rp_sr, rr_sh, rr_nw, rr_br, ra_sh, ra_br, ra_bx, ra_raw, va_sh, va_nt, va_nf, va_raw, hb_n, hb_sh, hb_bx, hb_raw, hb_br, sh_n, sh_c, tr_n, tr_b, tr_i, tr_l, tr_t, ty_n, ty_b, ty_i, ty_s, ty_l, ty_t, if_ff, if_tt, Env.set, List.getElem?_cons_succ, List.getElem?_cons_zero, List.set_cons_succ, List.set_cons_zero, List.reverse_cons, List.reverse_nil, List.nil_append, List.cons_append, Option.bind_some, ite_true, ite_false])
theorem ApartF.symm {a b : List Int} {x y : Int} (F : ApartF a b x y) : ApartF a b y x := ⟨F.py, F.px, F.cy, F.cx, fun e => F.ne e.symm, F.eq.symm⟩
def pairL (p : Int × Int) : List Int := [p.1, p.2]
/-- state_of: pairs, person, target -/
def b_state_of : DTS := (dRet (dCB φTuple (dCons (dLc (dIter (dCB φSorted (dCons (dVar 0) dNil))) (dGTup 2 (dGCons (dName 1) (dGCons (dName 2) dGNil))) dYes (dVar 2) [1, 2]) dNil)))
abbrev k_state_of : Nat := 2
def p_state_of : DSp := fun args c Q => ∃ (ps : List (Int × Int)), args = [.sh (.list (dT (ps.map pairL)))] ∧ ps.length ≤ 1000 ∧ ∀ qs : List (Int × Int), qs.Perm ps → qs.Pairwise (fun p q => p.1 ≤ q.1) → Q (.sh (.tuple (dI (qs.map (·.2))))) c
theorem mon_state_of : MonF p_state_of := fun args c A B h ⟨ps, ea, h1, q⟩ => ⟨ps, ea, h1, fun qs a b => h _ _ (q qs a b)⟩
theorem pair_sorted {ps : List (Int × Int)} {mss : List (List Int)} (hp : mss.Perm (ps.map pairL)) (pw : mss.Pairwise (fun x y => HT.lexLt y x = false)) : ∃ qs : List (Int × Int), mss = qs.map pairL ∧ qs.Perm ps ∧ qs.Pairwise (fun p q => p.1 ≤ q.1) := by
  have form : ∀ l ∈ mss, l = pairL (l.getD 0 0, l.getD 1 0) := fun l hl => by
    obtain ⟨p, _, rfl⟩ := List.mem_map.mp (hp.mem_iff.mp hl)
    rfl
  have e : mss = (mss.map fun l => (l.getD 0 0, l.getD 1 0)).map pairL := by
    rw [List.map_map]
    exact (List.map_id mss).symm.trans (List.map_congr_left fun l hl => form l hl)
  refine ⟨mss.map fun l => (l.getD 0 0, l.getD 1 0), e, ?_, ?_⟩
  · have := hp.map fun l : List Int => (l.getD 0 0, l.getD 1 0)
    rw [List.map_map] at this
    have e2 : ps.map ((fun l : List Int => (l.getD 0 0, l.getD 1 0)) ∘ pairL) = ps := (List.map_congr_left fun p _ => rfl).trans (List.map_id ps)
    rw [e2] at this
    exact this
  · rw [e] at pw
    have := List.pairwise_map.mp pw
    refine this.imp fun {x y} hxy => ?_
    unfold pairL at hxy
    rw [HT.lexLt_cons] at hxy
    by_cases q : y.1 = x.1
    · omega
    · rw [if_neg q] at hxy
      have := of_decide_eq_false hxy
      omega
theorem φSorted_pair {ps : List (Int × Int)} {Q : R → Prop} (q : ∀ qs : List (Int × Int), qs.Perm ps → qs.Pairwise (fun p q => p.1 ≤ q.1) → Q (.nw (dT (qs.map pairL)))) : φSorted [.list (dT (ps.map pairL))] Q := by
  unfold φSorted
  dsimp only
  cases ps with
  | nil =>
    show ∀ ms : List Int, ms.Perm [] → ms.Pairwise (· ≤ ·) → Q (.nw (dI ms))
    intro ms hp _
    rw [hp.eq_nil]
    exact q [] (List.Perm.refl _) List.Pairwise.nil
  | cons p ps =>
    have e1 : intsD (dT ((p :: ps).map pairL)) = none := rfl
    rw [e1, tupsD_dT _ (fun r hr => by
      obtain ⟨z, _, rfl⟩ := List.mem_map.mp hr
      exact fun z => nomatch z)]
    show ∀ mss : List (List Int), mss.Perm _ → mss.Pairwise _ → Q (.nw (dT mss))
    intro mss hp pw
    obtain ⟨X, rfl, h1, h2⟩ := pair_sorted hp pw
    exact q X h1 h2
theorem m_state_of : ∀ args c Q, p_state_of args c Q → defF k_state_of b_state_of args c Q := by
  rintro _ c Q ⟨ps, rfl, h1, q⟩
  show b_state_of _ ⟨[.sh (.list (dT (ps.map pairL))), .un, .un], c⟩
  unfold b_state_of
  rfl'
  refine φSorted_pair fun qs hp pw => ?_
  rfl'
  have e0 : dT (qs.map pairL) = qs.map fun p : Int × Int => .tuple [.int p.1, .int p.2] := by
    show List.map _ (List.map _ _) = _
    rw [List.map_map]; rfl
  rw [e0]
  refine lc_all (fun p : Int × Int => .tuple [.int p.1, .int p.2]) (fun p : Int × Int => .int p.2) qs [] (fun p hm K hK => ?_) (by rw [hp.length_eq]; show 0 + _ ≤ _; omega) ?_
  · rfl'
    exact ⟨rfl, hK _ _ rfl rfl⟩
  rw [List.nil_append]
  have e1 : qs.map (fun p : Int × Int => PyData.int p.2) = dI (qs.map (·.2)) := by
    show _ = List.map _ (List.map _ _)
    rw [List.map_map]; rfl
  rw [e1]
  rfl'
  exact q qs hp pw
end Lp

namespace Lp
open PySem PySem.Spec PyProof.Rows L2
end Lp

namespace Lp
open PySem PySem.Spec PyProof.Rows L2
section
variable {P : Program} {w : World} {A : Around} {E : Value → Shared → Prop} {s : Shared}
end
section
variable {X : Cx}
end
section
variable {w : Wx} {K : PySem.W.Frag} {te : TE} {f : DTE}
end
end Lp

namespace Lp
open PySem PySem.Spec PyProof.Rows L2
section
variable {X : Cx}
def rLenT (K : PySem.W.Frag) (P : Program) (w : World) : List V → Hp → VK → Prop := fun vs H Q => ∃ (a : Addr) (L : List (Addr × List Int)), vs = [V.ref a] ∧ H a = some (SetTO P w a L) ∧ (∀ p ∈ L, SqT K H p.1 (IL p.2)) ∧ ((L.map (·.2)).Nodup → Q (.int (L.length : Nat)) H)
theorem cr_lenT : CallR X (.builtin "len") (rLenT X.K X.prog X.w) := by
  rintro pins s σ H vs us Q I r ⟨a, L, rfl, ha, hk, q⟩
  have R0 : SetT0 X.prog X.w s.heap a L := (I.hok a _ ha).1
  obtain ⟨es, ep, t, R⟩ := R0.full fun p hp => I.isT (hk p hp)
  obtain ⟨o, ho, hx, hd⟩ := R.ob
  have size := R.size
  have few := R.few
  rw [Vals.ref1 r]
  refine call_len_set ho hx hd R.fits (by rw [size]; omega) ?_
  exact ⟨.int (L.length : Nat), H, (I.tok _).tok _, ⟨_, by rw [size]⟩, q R.nd⟩
theorem lenTK {K : PySem.W.Frag} {P : Program} {w : World} (e : X.K = K) (eP : X.prog = P) (ew : X.w = w) : CallR X (.builtin "len") (rLenT K P w) := by
  subst e eP ew
  exact cr_lenT
end
section
variable {w : Wx} {K : PySem.W.Frag} {te : TE} {f : DTE}
/-- len(set(xs)), xs a list of tuples of ints: ms are its items, each once -/
def dLenSet (f : DTE) (ε : Env) (Q : R → Env → Prop) : Prop := f ε fun r ε1 => match r.dat with
  | some (.list ds) => match tupsD ds with
    | some nss => nss.length < 64 ∧ ∀ ms : List (List Int), ms.Nodup → (∀ k, k ∈ ms ↔ k ∈ nss) → Q (.sh (.int (ms.length : Nat))) ε1
    | none => False
  | _ => False
theorem se_lenSet {P : Program} (hf : SE w te f) : SE w (tCB (rLenT K P w) (tCons (tCB (rSetOfT K P w) (tCons te tNil)) tNil)) (dLenSet f) := by
  constructor
  · intro ε A B h q
    refine hf.mono _ _ _ (fun r ε1 q => ?_) q
    split at q
    · split at q
      · exact ⟨q.1, fun RS h1 h2 => h _ _ (q.2 RS h1 h2)⟩
      · exact q.elim
    · exact q.elim
  · intro Z O σ ε L H Q X q
    refine hf.run Z O σ ε L H _ X (hf.mono _ _ _ (fun r ε1 q => ?_) q)
    intro v L1 H1 X1 e1 r1
    split at q
    · rename_i ds hd
      split at q
      · rename_i nss hn
        obtain ⟨a, ys, rfl, k1, k2⟩ := (r1.vl hd).lst X1.lh
        obtain ⟨e, ne⟩ := tupsD_is hn
        rw [e] at k2
        obtain ⟨P', e1', e2, hP⟩ := tups_refs k2
        subst e1'
        refine ⟨a, P', rfl, SqL.of k1, fun p hp => ((hP p hp).to X1.lh).seq, by rw [← List.length_map (f := (·.2)), e2]; exact q.1, fun b M nb h1 h2 => ?_⟩
        have eb : Ext none L1 H1 L1 (upd H1 b (SetTO P w b M)) := Ext.own nb
        have s2 : Same L1 (upd H1 b (SetTO P w b M)) := same_own X1.lh (X1.lh.free nb)
        have X2 := X1.step eb s2
        refine ⟨b, M, rfl, upd_same, fun p hp => ((hP p (h1 p hp)).to s2).seq, fun nd => ?_⟩
        have q2 := q.2 (M.map (·.2)) nd (fun k => by
          rw [← e2]
          constructor
          · intro hk
            obtain ⟨p, hp, rfl⟩ := List.mem_map.mp hk
            exact List.mem_map_of_mem (h1 p hp)
          · intro hk
            obtain ⟨p, hp, rfl⟩ := List.mem_map.mp hk
            exact h2 p hp)
        rw [List.length_map] at q2
        exact q2 _ L1 _ X2 (e1.trans eb.any) (VR.back (VR0.vr (r := .sh (.int (M.length : Nat))) (.int _) X2) (e1.trans eb.any))
      · exact q.elim
    · exact q.elim
end
end Lp

namespace Lp
open PySem PySem.Spec PyProof.Rows L2
section
variable {X : Cx} {pins : List (Addr × Obj)} {σ : L2.St} {H : Hp} {s : Shared} {a C : Addr} {B newId initId : String} {bm : List Value} {E : Value → Shared → Prop} {A : Around}
end
section
open Builtin Builtin.ObjectAttr PySem.W PySem.Calls PySem.HandSPX
variable {prog : Program} {w : World} {A : Around} {R : Result → Shared → Prop} {hp : Heap} {g : Array GenState} {d : Drawn} {t : Nat} {os : OsState}
end
section
variable {X : Cx} {pins : List (Addr × Obj)} {σ : L2.St} {H : Hp} {s : Shared} {a C : Addr} {B newId initId : String} {bm : List Value} {E : Value → Shared → Prop} {A : Around} {f : Str} {y : V} {u : Value}
end
section
variable {X : Cx} {o e : Expr} {es : List Expr} {to te : TE} {ta : TA} {f : Str} {p p' p1 p2 pos : Pos} {B newId initId : String} {bm : List Value}
end
end Lp

namespace Lp
open PySem PySem.Spec PyProof.Rows L2
abbrev DSpX := List SV → Nat → (R → Nat → Prop) → (Xn → Nat → Prop) → Prop
def dArgsX (F : DSpX) (rs : List R) (ε : Env) (Q : R → Env → Prop) (Ex : Xn → Env → Prop) : Prop := match argsOf rs with
  | some args => hasBr rs = false ∧ F args ε.c (fun r c => Q r ⟨ε.s, c⟩) (fun x c => Ex x ⟨ε.s, c⟩)
  | none => False
def dCallX (F : DSpX) (Ex : Xn → Env → Prop) (f : DTA) (ε : Env) (Q : R → Env → Prop) : Prop := f ε fun rs ε1 => dArgsX F rs ε1 Q Ex
section
variable {w : World} {cl : Str → Option Addr} {P0 : Hp} {W : WX} {Ex : Xn → Env → Prop}
end
section
variable {P : Program} {w : World} {K : PySem.W.Frag} {mg : Str → Option Value} {base : Heap} {cl : Str → Option Addr}
end
def dRaise (nm fld : Str) (f : DTE) (Ex : Xn → Env → Prop) (_ : DEnds) (ε : Env) : Prop := f ε fun r ε1 => match r with
  | .sh (.int i) => Ex ⟨nm, [(fld, .int i)]⟩ ε1
  | .sh (.tuple ds) => Ex ⟨nm, [(fld, .tuple ds)]⟩ ε1
  | _ => False
section
variable {w : World} {cl : Str → Option Addr} {P0 : Hp} {W : WX} {Ex : Xn → Env → Prop} {K : PySem.W.Frag} {C : Addr} {nm fld : Str} {te : TE} {f : DTE}
end
end Lp

namespace PySem.W
open PySem PySem.Spec PySem.Calls PyProof.Rows
section
variable {M : Model} {K : Frag}
end
end PySem.W
namespace Lp
open PySem PySem.Spec PyProof.Rows L2
section
variable {X : Cx}
end
section
variable {X : Cx} {pins : List (Addr × Obj)} {σ : L2.St} {H : Hp} {s : Shared}
end
section
variable {X : Cx} {n : Str} {cs : List Value} {te : Expr} {i : Nat} {body suite : List Stmt} {b₀ : Stmt} {pos pos' : Pos} {tb : WX → TS} {ts : Addr → Value → Option Addr → TS}
end
end Lp

namespace Lp
open PySem PySem.Spec PyProof.Rows L2
/-- None, or a caught exception, and its class -/
def TyE (K : PySem.W.Frag) (H : Hp) (v : V) (t : Value) : Prop := (v = .non ∧ t = .type "NoneType") ∨ ∃ (a C : Addr) (d : Option Addr), v = .ref a ∧ t = .ref C ∧ H a = some (exc a (.ref C) d) ∧ (d = none ∨ ∃ dd fs, d = some dd ∧ H dd = some (.xd fs)) ∧ ExcC K C
section
variable {X : Cx} {pins : List (Addr × Obj)} {σ : L2.St} {H : Hp} {s : Shared}
end
def baseX : Str → Str
  | "NoPerson" => "LookupError" | "NoNumber" => "LookupError" | "NoDeed" => "LookupError"
  | "OtherSize" => "ValueError" | "NoRoot" => "ValueError" | "MissingRoot" => "ValueError" | "NotKin" => "ValueError" | "NotPast" => "ValueError" | "BadDeed" => "ValueError" | "BadText" => "ValueError" | "BadLine" => "ValueError"
  | "Unreachable" => "RuntimeError" | "NoCommon" => "RuntimeError" | "Denied" => "RuntimeError" | "IsRoot" => "RuntimeError"
  | "TooMany" => "OverflowError"
  | _ => ""
def subX (c n : Str) : Bool := c == n || baseX c == n
def dIsX (nms : List Str) (f : DTE) (ε : Env) (Q : R → Env → Prop) : Prop := f ε fun r ε1 => match r with
  | .exn x => Q (.sh (.bool (nms.any (subX x.cls)))) ε1
  | .sh .none => Q (.sh (.bool false)) ε1
  | _ => False
def dAttr (n : Str) (f : DTE) (ε : Env) (Q : R → Env → Prop) : Prop := f ε fun r ε1 => match r with
  | .exn x => ∃ d, x.fs.lookup n = some d ∧ Q (.sh d) ε1
  | _ => False
theorem FVs.look {H : Hp} {n : Str} {d : PyData} : ∀ {vs : List (Str × V)} {ds : List (Str × PyData)}, FVs H vs ds → ds.lookup n = some d → ∃ v, vs.lookup n = some v ∧ DV H v d
  | _, _, .nil, e => by cases e
  | _, _, .cons (f := f) a r, e => by
    unfold List.lookup at e ⊢
    split at e
    · rename_i h
      cases e
      exact ⟨_, rfl, a⟩
    · exact r.look e
section
variable {w : Wx} {K : PySem.W.Frag} {te : TE} {f : DTE}
theorem XF.dict {H : Hp} {d : Option Addr} {fs : List (Str × PyData)} (x : XF H d fs) : d = none ∨ ∃ dd vs, d = some dd ∧ H dd = some (.xd vs) := by
  cases d with
  | none => exact .inl rfl
  | some dd =>
    obtain ⟨vs, h, _⟩ := x
    exact .inr ⟨dd, vs, rfl, h⟩
theorem TyE.of {H L : Hp} {v : V} {x : Xn} {C : Addr} (h : XV w L v x) (s : Same L H) (hC : w.cl x.cls = some C) (T : ExcC K C) : TyE K H v (.ref C) := by
  obtain ⟨a, C', d, h1, h2, h3, h4⟩ := h
  rw [hC] at h2
  cases h2
  exact .inr ⟨a, C, d, h1, rfl, s _ _ h3, (h4.to s).dict, T⟩
end
end Lp

namespace Lp
open PySem PySem.Spec PyProof.Rows L2
section
variable {X : Cx} {o e : Expr} {es : List Expr} {to te : TE} {ta : TA} {f : Str} {p p' p1 p2 pos : Pos} {B newId initId : String} {bm : List Value}
end
section
variable {P : Program} {w : World} {K : PySem.W.Frag} {mg : Str → Option Value} {base : Heap} {cl : Str → Option Addr}
end
def dIsNE (neg : Bool) (f : DTE) (ε : Env) (Q : R → Env → Prop) : Prop := f ε fun r ε1 => match r with
  | .exn _ => Q (.sh (.bool neg)) ε1
  | r => match r.dat with
    | some d => Q (.sh (.bool (if neg then !isN d else isN d))) ε1
    | none => False
section
variable {w : Wx} {K : PySem.W.Frag} {te : TE} {f : DTE}
end
def gx (F : DSpX) (o : Option (List SV)) (b : Bool) (ε : Env) (Q : R → Env → Prop) (Ex : Xn → Env → Prop) : Prop := match o with
  | some args => b = false ∧ F args ε.c (fun r c => Q r ⟨ε.s, c⟩) (fun x c => Ex x ⟨ε.s, c⟩)
  | none => False
theorem dArgsX_ (F : DSpX) (rs : List R) (ε : Env) (Q : R → Env → Prop) (Ex : Xn → Env → Prop) : dArgsX F rs ε Q Ex = gx F (argsOf rs) (hasBr rs) ε Q Ex := rfl
theorem gx_s (F : DSpX) (args : List SV) (b : Bool) (ε : Env) (Q : R → Env → Prop) (Ex : Xn → Env → Prop) : gx F (some args) b ε Q Ex = (b = false ∧ F args ε.c (fun r c => Q r ⟨ε.s, c⟩) (fun x c => Ex x ⟨ε.s, c⟩)) := rfl
end Lp

namespace Lp
open PySem PySem.Spec PyProof.Rows L2
local macro_rules | `(tactic| rfl') => `(tactic| try dsimp only [dVar_, gv_sh, gv_ow, gv_bx, gv_raw, gv_exn, gv_st, dC, dRaw, dOp, dUn, dTest, dTruth, dAnd, dOr, dNot, dYes, dIf, dAndV, dOrV, dNotV, dNotT, dChain, dNil, dCons, dTup, dLst, dats, dCB, dNoP, dPart, dSl, dNext, dBreak, dCont, dNever, dDrop, dRet, dRetN, dIfS, dSetG, dPar, dPar3, dAppend, dAppPop, dSetIx, dExt, dAug, dSet0, dSAdd, dSNotIn, dIter_, gi_l, gi_t, gi_b, dRng1, dRng2, dName, dGNil, dGCons, dGTup, dAsg, dFor, dWhile, dCall, dCallR, dArgs_, ga_f, ga_t, argsOf, dLc, wipeE, dListRg, dIndex, dSortSet, dSortSc, dEnum, dEnA, dZip, dIsi, dIsi2, isaT, φI, φB, φC, φNeg, add_i, add_l, add_t, mul_i, mul_l, φIx, sl_l, sl_t, eq_i, eq_s, eq_l, eq_t, eq_b, eq_n, φIsN, isN_n, isN_b, isN_i, isN_s, isN_l, isN_t, φLen, φList, φTuple, φAbs, φInt, φMax, φIsB, φIsNB, its_l, its_t, rd_sh, rd_nw, rd_br, rp_sh, rp_nw, rp_br, rp_bx, rp_raw, rp_sr, rr_sh, rr_nw, rr_br, ra_sh, ra_br, ra_bx, ra_raw, va_sh, va_nt, va_nf, va_raw, hb_n, hb_sh, hb_bx, hb_raw, hb_br, sh_n, sh_c, tr_n, tr_b, tr_i, tr_l, tr_t, ty_n, ty_b, ty_i, ty_s, ty_l, ty_t, if_ff, if_tt, Env.set, List.getElem?_cons_succ, List.getElem?_cons_zero, List.set_cons_succ, List.set_cons_zero, List.reverse_cons, List.reverse_nil, List.nil_append, List.cons_append, Option.bind_some, ite_true, ite_false, dCallX, dArgsX_, gx_s, dRaise, dIsX, dAttr, dIsNE])
end Lp

namespace Lp
open PySem PySem.Spec PyProof.Rows L2
local macro_rules | `(tactic| rfl') => `(tactic| try dsimp only [dVar_, gv_sh, gv_ow, gv_bx, gv_raw, gv_exn, gv_st, dC, dRaw, dOp, dUn, dTest, dTruth, dAnd, dOr, dNot, dYes, dIf, dAndV, dOrV, dNotV, dNotT, dChain, dNil, dCons, dTup, dLst, dats, dCB, dNoP, dPart, dSl, dNext, dBreak, dCont, dNever, dDrop, dRet, dRetN, dIfS, dSetG, dPar, dPar3, dAppend, dAppPop, dSetIx, dExt, dAug, dSet0, dSAdd, dSNotIn, dIter_, gi_l, gi_t, gi_b, dRng1, dRng2, dName, dGNil, dGCons, dGTup, dAsg, dFor, dWhile, dCall, dCallR, dArgs_, ga_f, ga_t, argsOf, dLc, wipeE, dListRg, dIndex, dSortSet, dSortSc, dEnum, dEnA, dZip, dIsi, dIsi2, isaT, φI, φB, φC, φNeg, add_i, add_l, add_t, mul_i, mul_l, φIx, sl_l, sl_t, eq_i, eq_s, eq_l, eq_t, eq_b, eq_n, φIsN, isN_n, isN_b, isN_i, isN_s, isN_l, isN_t, φLen, φList, φTuple, φAbs, φInt, φMax, φIsB, φIsNB, its_l, its_t, rd_sh, rd_nw, rd_br, rp_sh, rp_nw, rp_br, rp_bx, rp_raw, rp_sr, rr_sh, rr_nw, rr_br, ra_sh, ra_br, ra_bx, ra_raw, va_sh, va_nt, va_nf, va_raw, hb_n, hb_sh, hb_bx, hb_raw, hb_br, sh_n, sh_c, tr_n, tr_b, tr_i, tr_l, tr_t, ty_n, ty_b, ty_i, ty_s, ty_l, ty_t, if_ff, if_tt, Env.set, List.getElem?_cons_succ, List.getElem?_cons_zero, List.set_cons_succ, List.set_cons_zero, List.reverse_cons, List.reverse_nil, List.nil_append, List.cons_append, Option.bind_some, ite_true, ite_false, dCallX, dArgsX_, gx_s, dRaise, dIsX, dAttr, dIsNE])
end Lp

namespace Lp
open PySem PySem.Spec PyProof.Rows L2
local macro_rules | `(tactic| rfl') => `(tactic| try dsimp only [dVar_, gv_sh, gv_ow, gv_bx, gv_raw, gv_exn, gv_st, dC, dRaw, dOp, dUn, dTest, dTruth, dAnd, dOr, dNot, dYes, dIf, dAndV, dOrV, dNotV, dNotT, dChain, dNil, dCons, dTup, dLst, dats, dCB, dNoP, dPart, dSl, dNext, dBreak, dCont, dNever, dDrop, dRet, dRetN, dIfS, dSetG, dPar, dPar3, dAppend, dAppPop, dSetIx, dExt, dAug, dSet0, dSAdd, dSNotIn, dIter_, gi_l, gi_t, gi_b, dRng1, dRng2, dName, dGNil, dGCons, dGTup, dAsg, dFor, dWhile, dCall, dCallR, dArgs_, ga_f, ga_t, argsOf, dLc, wipeE, dListRg, dIndex, dSortSet, dSortSc, dEnum, dEnA, dZip, dIsi, dIsi2, isaT, φI, φB, φC, φNeg, add_i, add_l, add_t, mul_i, mul_l, φIx, sl_l, sl_t, eq_i, eq_s, eq_l, eq_t, eq_b, eq_n, φIsN, isN_n, isN_b, isN_i, isN_s, isN_l, isN_t, φLen, φList, φTuple, φAbs, φInt, φMax, φIsB, φIsNB, its_l, its_t, rd_sh, rd_nw, rd_br, rp_sh, rp_nw, rp_br, rp_bx, rp_raw, rp_sr, rr_sh, rr_nw, rr_br, ra_sh, ra_br, ra_bx, ra_raw, va_sh, va_nt, va_nf, va_raw, hb_n, hb_sh, hb_bx, hb_raw, hb_br, sh_n, sh_c, tr_n, tr_b, tr_i, tr_l, tr_t, ty_n, ty_b, ty_i, ty_s, ty_l, ty_t, if_ff, if_tt, Env.set, List.getElem?_cons_succ, List.getElem?_cons_zero, List.set_cons_succ, List.set_cons_zero, List.reverse_cons, List.reverse_nil, List.nil_append, List.cons_append, Option.bind_some, ite_true, ite_false, dCallX, dArgsX_, gx_s, dRaise, dIsX, dAttr, dIsNE])
theorem comp_mem {ns : List Int} {p z : Int} : z ∈ compF ns p ↔ Per ns z ∧ headF ns z = headF ns p := by
  unfold compF
  rw [compH_mem]
  constructor
  · rintro ⟨j, hj, e, rfl⟩
    exact ⟨⟨by omega, by omega⟩, e⟩
  · rintro ⟨⟨h0, h1⟩, e⟩
    exact ⟨z.toNat, by omega, by rw [show ((z.toNat : Nat) : Int) = z by omega]; exact e, by omega⟩
theorem head_gt {ns : List Int} (h : Stt ns) {z : Int} (hz : Per ns z) : headF ns (gt ns z) = headF ns z := by
  unfold headF
  rw [ringF_step h.lo hz.1 hz.2]
theorem comp_self {ns : List Int} {p : Int} (hp : Per ns p) : p ∈ compF ns p := comp_mem.mpr ⟨hp, rfl⟩
theorem comp_len (ns : List Int) (p : Int) : (compF ns p).length ≤ ns.length := compH_len ns _ _
end Lp

namespace Lp
open PySem PySem.Spec PyProof.Rows L2
local macro_rules | `(tactic| rfl') => `(tactic| try dsimp only [dVar_, gv_sh, gv_ow, gv_bx, gv_raw, gv_exn, gv_st, dC, dRaw, dOp, dUn, dTest, dTruth, dAnd, dOr, dNot, dYes, dIf, dAndV, dOrV, dNotV, dNotT, dChain, dNil, dCons, dTup, dLst, dats, dCB, dNoP, dPart, dSl, dNext, dBreak, dCont, dNever, dDrop, dRet, dRetN, dIfS, dSetG, dPar, dPar3, dAppend, dAppPop, dSetIx, dExt, dAug, dSet0, dSAdd, dSNotIn, dIter_, gi_l, gi_t, gi_b, dRng1, dRng2, dName, dGNil, dGCons, dGTup, dAsg, dFor, dWhile, dCall, dCallR, dArgs_, ga_f, ga_t, argsOf, dLc, wipeE, dListRg, dIndex, dSortSet, dSortSc, dEnum, dEnA, dZip, dIsi, dIsi2, isaT, φI, φB, φC, φNeg, add_i, add_l, add_t, mul_i, mul_l, φIx, sl_l, sl_t, eq_i, eq_s, eq_l, eq_t, eq_b, eq_n, φIsN, isN_n, isN_b, isN_i, isN_s, isN_l, isN_t, φLen, φList, φTuple, φAbs, φInt, φMax, φIsB, φIsNB, its_l, its_t, rd_sh, rd_nw, rd_br, rp_sh, rp_nw, rp_br, rp_bx, rp_raw, rp_sr, rr_sh, rr_nw, rr_br, ra_sh, ra_br, ra_bx, ra_raw, va_sh, va_nt, va_nf, va_raw, hb_n, hb_sh, hb_bx, hb_raw, hb_br, sh_n, sh_c, tr_n, tr_b, tr_i, tr_l, tr_t, ty_n, ty_b, ty_i, ty_s, ty_l, ty_t, if_ff, if_tt, Env.set, List.getElem?_cons_succ, List.getElem?_cons_zero, List.set_cons_succ, List.set_cons_zero, List.reverse_cons, List.reverse_nil, List.nil_append, List.cons_append, Option.bind_some, ite_true, ite_false])
theorem comp_sameB {ns : List Int} {p q : Int} (e : headF ns p = headF ns q) : compF ns p = compF ns q := by
  unfold compF; rw [e]
theorem comp_hdB {ns : List Int} {p : Int} (hp : Per ns p) : (compF ns p).headD 0 ∈ compF ns p := by
  cases e : compF ns p with
  | nil => exact absurd e (List.ne_nil_of_mem (comp_self hp))
  | cons g r => exact List.mem_cons_self
structure CoverB (ns L : List Int) : Prop where
  per : ∀ x ∈ L, Per ns x
  nd : (L.map (headF ns)).Nodup
  all : ∀ y, Per ns y → ∃ x ∈ L, headF ns y = headF ns x
def hdLB (CS : List (List Int)) : List Int := CS.map fun G => G.headD 0
theorem hd_coverB {ns : List Int} {CS : List (List Int)} (h : Stt ns) (hC : CompsOf ns CS) : CoverB ns (hdLB CS) where
  per := fun x hx => by
    obtain ⟨G, hG, rfl⟩ := List.mem_map.mp hx
    obtain ⟨j, hj, rfl⟩ := (hC.2.2 G).mp hG
    exact (comp_mem.mp (comp_hdB (per_nat hj))).1
  nd := by
    unfold hdLB
    rw [List.map_map]
    unfold List.Nodup
    rw [List.pairwise_map]
    refine List.Pairwise.imp_of_mem ?_ hC.1
    intro a b ha hb ne e
    obtain ⟨i, hi, rfl⟩ := (hC.2.2 a).mp ha
    obtain ⟨j, hj, rfl⟩ := (hC.2.2 b).mp hb
    have e1 := (comp_mem.mp (comp_hdB (per_nat hi))).2
    have e2 := (comp_mem.mp (comp_hdB (per_nat hj))).2
    refine ne (comp_sameB ?_)
    rw [← e1, ← e2]; exact e
  all := fun y hy => by
    have hG : compF ns y ∈ CS := (hC.2.2 _).mpr ⟨y.toNat, by have := hy.1; have := hy.2; omega, by rw [show ((y.toNat : Nat) : Int) = y by have := hy.1; omega]⟩
    exact ⟨_, List.mem_map.mpr ⟨_, hG, rfl⟩, (comp_mem.mp (comp_hdB hy)).2.symm⟩
theorem comps_fewB {ns : List Int} {CS : List (List Int)} (h : Stt ns) (n60 : ns.length ≤ 60) (hC : CompsOf ns CS) : CS.length ≤ 60 := by
  have C := hd_coverB h hC
  have nd : (hdLB CS).Nodup := by
    have := C.nd
    unfold List.Nodup at this ⊢
    rw [List.pairwise_map] at this
    exact this.imp fun {a b} q e => q (by rw [e])
  have l : (hdLB CS).length ≤ ns.length := low_len ns.length (hdLB CS) nd fun z hz => C.per z hz
  have e : (hdLB CS).length = CS.length := by unfold hdLB; rw [List.length_map]
  omega
theorem comp_ascB (ns : List Int) (x : Int) : (compF ns x).Pairwise (· < ·) := by
  unfold compF compH
  refine List.pairwise_map.mpr (List.Pairwise.imp (fun {a b} (l : a < b) => ?_) (List.Pairwise.filter _ List.pairwise_lt_range))
  exact Int.ofNat_lt.mpr l
end Lp

namespace Lp
open PySem PySem.Spec PyProof.Rows L2
local macro_rules | `(tactic| rfl') => `(tactic| try dsimp only [dVar_, gv_sh, gv_ow, gv_bx, gv_raw, gv_exn, gv_st, dC, dRaw, dOp, dUn, dTest, dTruth, dAnd, dOr, dNot, dYes, dIf, dAndV, dOrV, dNotV, dNotT, dChain, dNil, dCons, dTup, dLst, dats, dCB, dNoP, dPart, dSl, dNext, dBreak, dCont, dNever, dDrop, dRet, dRetN, dIfS, dSetG, dPar, dPar3, dAppend, dAppPop, dSetIx, dExt, dAug, dSet0, dSAdd, dSNotIn, dIter_, gi_l, gi_t, gi_b, dRng1, dRng2, dName, dGNil, dGCons, dGTup, dAsg, dFor, dWhile, dCall, dCallR, dArgs_, ga_f, ga_t, argsOf, dLc, wipeE, dListRg, dIndex, dSortSet, dSortSc, dEnum, dEnA, dZip, dIsi, dIsi2, isaT, φI, φB, φC, φNeg, add_i, add_l, add_t, mul_i, mul_l, φIx, sl_l, sl_t, eq_i, eq_s, eq_l, eq_t, eq_b, eq_n, φIsN, isN_n, isN_b, isN_i, isN_s, isN_l, isN_t, φLen, φList, φTuple, φAbs, φInt, φMax, φIsB, φIsNB, its_l, its_t, rd_sh, rd_nw, rd_br, rp_sh, rp_nw, rp_br, rp_bx, rp_raw, rp_sr, rr_sh, rr_nw, rr_br, ra_sh, ra_br, ra_bx, ra_raw, va_sh, va_nt, va_nf, va_raw, hb_n, hb_sh, hb_bx, hb_raw, hb_br, sh_n, sh_c, tr_n, tr_b, tr_i, tr_l, tr_t, ty_n, ty_b, ty_i, ty_s, ty_l, ty_t, if_ff, if_tt, Env.set, List.getElem?_cons_succ, List.getElem?_cons_zero, List.set_cons_succ, List.set_cons_zero, List.reverse_cons, List.reverse_nil, List.nil_append, List.cons_append, Option.bind_some, ite_true, ite_false])
theorem for_inv {γ : DTG} {p : DTS} {Δ : DEnds} {N : Nat} (I : Nat → Env → Prop) : ∀ (ds : List PyData) (k : Nat) (ε : Env), k + ds.length ≤ N → I k ε →
    (∀ d ∈ ds, ∀ (k : Nat) (ε : Env) (D : Env → Prop), k < N → I k ε → (∀ ε', I (k + 1) ε' → D ε') → γ d ε fun ε1 => p { nx := D, rt := Δ.rt, bk := Δ.nx, ct := D } ε1) →
    (∀ ε', I (k + ds.length) ε' → Δ.nx ε') → forD γ p Δ ds ε
  | [], k, ε, _, h, _, q => q ε h
  | d :: ds, k, ε, hN, h, st, q => for_cons (st d List.mem_cons_self k ε _ (by rw [List.length_cons] at hN; omega) h fun ε' h' => for_inv I ds (k + 1) ε' (by rw [List.length_cons] at hN; omega) h' (fun z hz => st z (List.mem_cons_of_mem _ hz)) fun ε2 h2 => q ε2 (by rw [List.length_cons, Nat.add_comm ds.length 1, ← Nat.add_assoc]; exact h2))
end Lp

namespace Lp
open PySem PySem.Spec PyProof.Rows L2
section
variable {X : Cx}
end
end Lp

namespace Lp
open PySem PySem.Spec PyProof.Rows L2
section
variable {w : Wx} {ta tb tc td : TE} {f g k l : DTE}
end
end Lp

namespace Lp
open PySem PySem.Spec PyProof.Rows L2
section
variable {w : Wx} {Z : Zx} {O : Addr → Prop} {σ : L2.St} {ε : Env} {L H : Hp}
theorem Rep.pubAt (x : Rep w Z O L H σ ε) {i : Nat} {ds : List PyData} (h : ε.s[i]? = some (.ow ds)) : ∃ L2, Rep w Z O L2 H σ (ε.set i (.sh (.list ds))) := by
  obtain ⟨o, h1, a, xs, rfl, h2, h3, h4, h5, h6⟩ := x.sl i _ h
  have s1 : Same L (upd L a (.lst xs)) := same_upd h3
  refine ⟨upd L a (.lst xs), same_pub x.lh h5, x.pn.trans s1, ⟨x.ex.ll.trans s1, x.ex.hh, x.ex.dom, fun b hb hd => ?_⟩, fun b hb => ?_, x.oh, ?_, fun j y hy => ?_, fun j k y z b jk hy hz oy oz e => ?_, x.ph⟩
  · rw [upd_ne (ne_at hd h4)]; exact x.ex.fr b hb hd
  · obtain ⟨q1, q2, q3⟩ := x.bo b hb
    exact ⟨by rw [upd_ne (ne_at q3 h4)]; exact q1, q2, q3⟩
  · rw [x.len]; unfold Env.set; rw [List.length_set]
  · unfold Env.set at hy
    rcases get_set hy with ⟨rfl, rfl, _⟩ | ⟨ne, hy⟩
    · exact ⟨_, h1, .ref a, rfl, .lst upd_same (h6.to s1)⟩
    · obtain ⟨o, q1, q2⟩ := x.sl j y hy
      refine ⟨o, q1, ?_⟩
      cases y with
      | un => trivial
      | sh d =>
        obtain ⟨v, e1, e2⟩ := q2
        exact ⟨v, e1, e2.to s1⟩
      | ow es =>
        obtain ⟨b, ys, e1, e2, e3, e4, e5, e6⟩ := q2
        subst e1
        have ba : b ≠ a := fun z => x.di i j _ _ a ne h hy rfl rfl h1 (by rw [← z]; exact q1)
        exact ⟨b, ys, rfl, e2, by rw [upd_ne ba]; exact e3, e4, e5, e6.to s1⟩
      | bx => exact q2
      | st S n =>
        obtain ⟨b, e1, e2, e3, e4, e5⟩ := q2
        subst e1
        have ba : b ≠ a := fun z => x.di i j _ _ a ne h hy rfl rfl h1 (by rw [← z]; exact q1)
        exact ⟨b, rfl, e2, by rw [upd_ne ba]; exact e3, e4, e5⟩
      | dco ys =>
        obtain ⟨b, e1, e2, e3, e4, e5, e6⟩ := q2
        subst e1
        have ba : b ≠ a := fun z => x.di i j _ _ a ne h hy rfl rfl h1 (by rw [← z]; exact q1)
        exact ⟨b, rfl, e2, by rw [upd_ne ba]; exact e3, e4, e5, e6.to s1⟩
      | sto M =>
        obtain ⟨b, A, e1, e2, e3, e4, e5, e6⟩ := q2
        subst e1
        have ba : b ≠ a := fun z => x.di i j _ _ a ne h hy rfl rfl h1 (by rw [← z]; exact q1)
        exact ⟨b, A, rfl, e2, by rw [upd_ne ba]; exact e3, e4, e5, e6.to s1⟩
      | dsh ys => obtain ⟨v, e1, e2⟩ := q2; exact ⟨v, e1, e2.to s1⟩
      | raw u => exact q2
      | exn x => obtain ⟨v, e1, e2⟩ := q2; exact ⟨v, e1, e2.to s1⟩
  · unfold Env.set at hy hz
    rcases get_set hy with ⟨rfl, rfl, _⟩ | ⟨ne, hy⟩
    · cases oy
    rcases get_set hz with ⟨rfl, rfl, _⟩ | ⟨ne2, hz⟩
    · cases oz
    exact x.di j k y z b jk hy hz oy oz e
end
section
variable {w : Wx} {t : TS} {d : DTS}
def dPub (i : Nat) (d : DTS) (Δ : DEnds) (ε : Env) : Prop := match ε.s[i]? with
  | some (.ow ds) => d Δ (ε.set i (.sh (.list ds)))
  | _ => False
theorem ss_pub {i : Nat} (h : SS w t d) : SS w t (dPub i d) := by
  constructor
  · intro Δ Δ' ε le z
    unfold dPub at z ⊢
    split at z
    · exact h.mono _ _ _ le z
    · exact z.elim
  · intro Z O σ ε L H D Δ X E z
    unfold dPub at z
    split at z
    · rename_i ds e
      obtain ⟨L2, X2⟩ := X.pubAt e
      exact h.run Z O σ _ L2 H D Δ X2 E z
    · exact z.elim
end
end Lp

namespace Lp
open PySem PySem.Spec PyProof.Rows L2
def R.rows : R → Option (List DRow)
  | .dnw xs => some xs
  | .dbr _ xs => some xs
  | .dsh xs => some xs
  | _ => none
/-- a tuple of ints -/
def R.key (r : R) : Option (List Int) := match r.dat with
  | some (.tuple es) => intsD es
  | _ => none
section
variable {w : Wx} {K : PySem.W.Frag} {Z : Zx} {O : Addr → Prop} {σ : L2.St} {ε : Env} {Hs L H : Hp} {v : V} {r : R}
theorem VR.rows {xs : List DRow} (x : VR w Z O σ Hs L H v r) (s : Same L H) (e : r.rows = some xs) : ∃ a, v = .ref a ∧ IsDct H a xs ∧ KD L xs := by
  cases r with
  | dnw ys =>
    cases e
    obtain ⟨a, rfl, _, _, _, _, h5, h6⟩ := x
    exact ⟨a, rfl, h5, h6⟩
  | dbr i ys =>
    cases e
    obtain ⟨a, rfl, _, _, _, _, h5, h6⟩ := x
    exact ⟨a, rfl, h5, h6⟩
  | dsh ys =>
    cases e
    obtain ⟨a, rfl, ⟨ob, h5⟩, h6⟩ := x
    exact ⟨a, rfl, ⟨ob, s _ _ h5⟩, h6⟩
  | _ => cases e
theorem KD.at {xs : List DRow} (x : KD L xs) (s : Same L H) {a : Addr} (h : IsDct H a xs) : DAtH K H a xs := ⟨h, fun y hy => ((x y hy).1.to s).seq⟩
theorem VR.key {k : List Int} (x : VR w Z O σ Hs L H v r) (e : r.key = some k) : ∃ b, v = .ref b ∧ Sol L b (k.map V.int) := by
  unfold R.key at e
  split at e
  · rename_i es h
    obtain ⟨a, xs, rfl, h1, h2⟩ := (x.vl h).tup
    have := intsD_is e
    subst this
    rw [ints_dvs h2] at h1
    exact ⟨a, rfl, h1⟩
  · cases e
end
section
variable {w : Wx} {K : PySem.W.Frag} {ta tb tc : TE} {f g h : DTE}
def dDIn (neg : Bool) (f g : DTE) (ε : Env) (Q : R → Env → Prop) : Prop := f ε fun x ε1 => g ε1 fun y ε2 => match x.key, y.rows with
  | some k, some xs => Q (.sh (.bool (neg ^^ (valD xs k).isSome))) ε2
  | _, _ => False
def dDGet (f g : DTE) (ε : Env) (Q : R → Env → Prop) : Prop := f ε fun x ε1 => g ε1 fun y ε2 => match x.rows, y.key with
  | some xs, some k => ∃ r, valD xs k = some r ∧ Q (.sh r.d) ε2
  | _, _ => False
/-- sorted(d) -/
def dSortD (f : DTE) (ε : Env) (Q : R → Env → Prop) : Prop := f ε fun x ε1 => match x.rows with
  | some xs => (∀ x ∈ xs, x.k ≠ []) ∧ ∀ mss : List (List Int), mss.Perm (xs.map DRow.k) → mss.Pairwise (fun x y => HT.lexLt y x = false) → Q (.nw (dT mss)) ε1
  | _ => False
/-- {k: v} -/
def dDisp1 (f g : DTE) (ε : Env) (Q : R → Env → Prop) : Prop := f ε fun x ε1 => g ε1 fun y ε2 => match x.key, y.pub with
  | some k, .sh d => ∀ b v, Q (.dnw [⟨k, b, v, d⟩]) ε2
  | _, _ => False
/-- {} -/
def dDNew (ε : Env) (Q : R → Env → Prop) : Prop := Q (.dnw []) ε
/-- d[k] = v -/
def dDPut (i : Nat) (f g : DTE) (Δ : DEnds) (ε : Env) : Prop := f ε fun x ε1 => match x.pub, ε1.s[i]? with
  | .sh d, some (.dco _) => g ε1 fun y ε2 => match y.key, ε2.s[i]? with
    | some k, some (.dco xs) => xs.length < sizeLine ∧ ∀ b v, Δ.nx (ε2.set i (.dco (putD xs ⟨k, b, v, d⟩)))
    | _, _ => False
  | _, _ => False
end
theorem hu1 {k : Nat} {A : Around} (hr : Room k A) : A.units + 1 < cLine := by have := hr.un; omega
section
variable {X : Cx} {K : PySem.W.Frag}
end
section
variable (xs : List DRow) (i : Nat)
theorem va_dt : val true (.dnw xs) = some (.dco xs) := rfl
theorem va_df : val false (.dnw xs) = some (.dsh xs) := rfl
theorem va_ds (o : Bool) : val o (.dsh xs) = some (.dsh xs) := rfl
theorem rr_dn : R.ret (.dnw xs) = some (.dnw xs) := rfl
theorem rr_db : R.ret (.dbr i xs) = some (.dnw xs) := rfl
theorem rr_ds : R.ret (.dsh xs) = some (.dsh xs) := rfl
theorem rw_dn : R.rows (.dnw xs) = some xs := rfl
theorem rw_db : R.rows (.dbr i xs) = some xs := rfl
theorem rw_ds : R.rows (.dsh xs) = some xs := rfl
end
end Lp

namespace Lp
open PySem PySem.Spec PyProof.Rows L2
section
variable {w : Wx} {K : PySem.W.Frag} {ta tb te : TE} {f g : DTE}
def dST0 (i : Nat) (Δ : DEnds) (ε : Env) : Prop := Δ.nx (ε.set i (.sto []))
def dSTAdd (i : Nat) (f : DTE) (Δ : DEnds) (ε : Env) : Prop := match ε.s[i]? with
  | some (.sto _) => f ε fun r ε1 => match r.key, ε1.s[i]? with
    | some k, some (.sto M) => M.length + 1 < 64 ∧ Δ.nx (ε1.set i (.sto (M ++ [k])))
    | _, _ => False
  | _ => False
theorem TSM.seq {L H : Hp} {A : List (Addr × List Int)} {M : List (List Int)} (h : TSM L A M) (s : Same L H) : ∀ p ∈ A, SqT K H p.1 (p.2.map V.int) := fun p hp => ((h.1 p hp).to s).seq
def dSTIn (neg : Bool) (f g : DTE) (ε : Env) (Q : R → Env → Prop) : Prop := f ε fun x ε1 => g ε1 fun y ε2 => match x.key, y with
  | some k, .srt _ M => Q (.sh (.bool (neg ^^ decide (k ∈ M)))) ε2
  | _, _ => False
def dcD (γ : DTG) (c : DTT) (f g : DTE) (vs : List Nat) (s : List SV) (Q : R → Env → Prop) : List PyData → List DRow → Nat → Prop
  | [], xs, n => Q (.dnw xs) ⟨s, n⟩
  | d :: ds, xs, n => γ d ⟨wipeE ⟨s, n⟩ vs, n⟩ fun ε1 => c ε1 fun b ε2 => if b = true then f ε2 fun x ε3 => g ε3 fun y ε4 => match x.key, y.pub with
      | some k, .sh e => xs.length < sizeLine ∧ ∀ b v, dcD γ c f g vs s Q ds (putD xs ⟨k, b, v, e⟩) ε4.c
      | _, _ => False
    else dcD γ c f g vs s Q ds xs ε2.c
def dDc (i : DTI) (γ : DTG) (c : DTT) (f g : DTE) (vs : List Nat) (ε : Env) (Q : R → Env → Prop) : Prop := i ε fun ds _ ε1 => dcD γ c f g vs ε1.s Q ds [] ε1.c
end
section
variable {X : Cx} {K : PySem.W.Frag}
end
end Lp

namespace Lp
open PySem PySem.Spec PyProof.Rows L2
local macro_rules | `(tactic| rfl') => `(tactic| try dsimp only [dVar_, gv_sh, gv_ow, gv_bx, gv_raw, gv_exn, gv_st, dC, dRaw, dOp, dUn, dTest, dTruth, dAnd, dOr, dNot, dYes, dIf, dAndV, dOrV, dNotV, dNotT, dChain, dNil, dCons, dTup, dLst, dats, dCB, dNoP, dPart, dSl, dNext, dBreak, dCont, dNever, dDrop, dRet, dRetN, dIfS, dSetG, dPar, dPar3, dAppend, dAppPop, dSetIx, dExt, dAug, dSet0, dSAdd, dSNotIn, dIter_, gi_l, gi_t, gi_b, dRng1, dRng2, dName, dGNil, dGCons, dGTup, dAsg, dFor, dWhile, dCall, dCallR, dArgs_, ga_f, ga_t, argsOf, dLc, wipeE, dListRg, dIndex, dSortSet, dSortSc, dEnum, dEnA, dZip, dIsi, dIsi2, isaT, φI, φB, φC, φNeg, add_i, add_l, add_t, mul_i, mul_l, φIx, sl_l, sl_t, eq_i, eq_s, eq_l, eq_t, eq_b, eq_n, φIsN, isN_n, isN_b, isN_i, isN_s, isN_l, isN_t, φLen, φList, φTuple, φAbs, φInt, φMax, φIsB, φIsNB, its_l, its_t, rd_sh, rd_nw, rd_br, rp_sh, rp_nw, rp_br, rp_bx, rp_raw, rp_sr, rr_sh, rr_nw, rr_br, ra_sh, ra_br, ra_bx, ra_raw, va_sh, va_nt, va_nf, va_raw, hb_n, hb_sh, hb_bx, hb_raw, hb_br, sh_n, sh_c, tr_n, tr_b, tr_i, tr_l, tr_t, ty_n, ty_b, ty_i, ty_s, ty_l, ty_t, if_ff, if_tt, Env.set, List.getElem?_cons_succ, List.getElem?_cons_zero, List.set_cons_succ, List.set_cons_zero, List.reverse_cons, List.reverse_nil, List.nil_append, List.cons_append, Option.bind_some, ite_true, ite_false, dST0, dSTAdd, dSTIn, dDc, gv_sto, dPub, gv_dco, gv_dsh, dDIn, dDGet, dSortD, dDisp1, dDNew, dDPut, va_dt, va_df, va_ds, rr_dn, rr_db, rr_ds, rw_dn, rw_db, rw_ds])
structure Roots (ns rs : List Int) : Prop where
  per : ∀ r ∈ rs, Per ns r
  on : ∀ r ∈ rs, r ∈ ringF ns r
  one : rs.Pairwise (fun a b => ringF ns a ≠ ringF ns b)
  all : ∀ x, Per ns x → ∃ r ∈ rs, ringF ns r = ringF ns x
def nsI (n : Nat) : List Int := (List.range n).map fun i : Nat => (i : Int)
theorem nsI_len (n : Nat) : (nsI n).length = n := by unfold nsI; rw [List.length_map, List.length_range]
theorem nsI_mem {n : Nat} {z : Int} : z ∈ nsI n ↔ 0 ≤ z ∧ z < (n : Int) := by
  unfold nsI
  rw [List.mem_map]
  constructor
  · rintro ⟨i, hi, rfl⟩
    have := List.mem_range.mp hi
    omega
  · rintro ⟨h0, h1⟩
    exact ⟨z.toNat, List.mem_range.mpr (by omega), by omega⟩
theorem Roots.nd {ns rs : List Int} (R : Roots ns rs) : rs.Nodup := R.one.imp fun {a b} h e => h (by rw [e])
theorem Roots.len {ns rs : List Int} (R : Roots ns rs) : rs.length ≤ ns.length := low_len ns.length rs R.nd fun z hz => R.per z hz
end Lp

namespace Lp
open PySem PySem.Spec PyProof.Rows L2
local macro_rules | `(tactic| rfl') => `(tactic| try dsimp only [dVar_, gv_sh, gv_ow, gv_bx, gv_raw, gv_exn, gv_st, dC, dRaw, dOp, dUn, dTest, dTruth, dAnd, dOr, dNot, dYes, dIf, dAndV, dOrV, dNotV, dNotT, dChain, dNil, dCons, dTup, dLst, dats, dCB, dNoP, dPart, dSl, dNext, dBreak, dCont, dNever, dDrop, dRet, dRetN, dIfS, dSetG, dPar, dPar3, dAppend, dAppPop, dSetIx, dExt, dAug, dSet0, dSAdd, dSNotIn, dIter_, gi_l, gi_t, gi_b, dRng1, dRng2, dName, dGNil, dGCons, dGTup, dAsg, dFor, dWhile, dCall, dCallR, dArgs_, ga_f, ga_t, argsOf, dLc, wipeE, dListRg, dIndex, dSortSet, dSortSc, dEnum, dEnA, dZip, dIsi, dIsi2, isaT, φI, φB, φC, φNeg, add_i, add_l, add_t, mul_i, mul_l, φIx, sl_l, sl_t, eq_i, eq_s, eq_l, eq_t, eq_b, eq_n, φIsN, isN_n, isN_b, isN_i, isN_s, isN_l, isN_t, φLen, φList, φTuple, φAbs, φInt, φMax, φIsB, φIsNB, its_l, its_t, rd_sh, rd_nw, rd_br, rp_sh, rp_nw, rp_br, rp_bx, rp_raw, rp_sr, rr_sh, rr_nw, rr_br, ra_sh, ra_br, ra_bx, ra_raw, va_sh, va_nt, va_nf, va_raw, hb_n, hb_sh, hb_bx, hb_raw, hb_br, sh_n, sh_c, tr_n, tr_b, tr_i, tr_l, tr_t, ty_n, ty_b, ty_i, ty_s, ty_l, ty_t, if_ff, if_tt, Env.set, List.getElem?_cons_succ, List.getElem?_cons_zero, List.set_cons_succ, List.set_cons_zero, List.reverse_cons, List.reverse_nil, List.nil_append, List.cons_append, Option.bind_some, ite_true, ite_false])
end Lp

namespace Lp
open PySem PySem.Spec PyProof.Rows L2
local macro_rules | `(tactic| rfl') => `(tactic| try dsimp only [dVar_, gv_sh, gv_ow, gv_bx, gv_raw, gv_exn, gv_st, dC, dRaw, dOp, dUn, dTest, dTruth, dAnd, dOr, dNot, dYes, dIf, dAndV, dOrV, dNotV, dNotT, dChain, dNil, dCons, dTup, dLst, dats, dCB, dNoP, dPart, dSl, dNext, dBreak, dCont, dNever, dDrop, dRet, dRetN, dIfS, dSetG, dPar, dPar3, dAppend, dAppPop, dSetIx, dExt, dAug, dSet0, dSAdd, dSNotIn, dIter_, gi_l, gi_t, gi_b, dRng1, dRng2, dName, dGNil, dGCons, dGTup, dAsg, dFor, dWhile, dCall, dCallR, dArgs_, ga_f, ga_t, argsOf, dLc, wipeE, dListRg, dIndex, dSortSet, dSortSc, dEnum, dEnA, dZip, dIsi, dIsi2, isaT, φI, φB, φC, φNeg, add_i, add_l, add_t, mul_i, mul_l, φIx, sl_l, sl_t, eq_i, eq_s, eq_l, eq_t, eq_b, eq_n, φIsN, isN_n, isN_b, isN_i, isN_s, isN_l, isN_t, φLen, φList, φTuple, φAbs, φInt, φMax, φIsB, φIsNB, its_l, its_t, rd_sh, rd_nw, rd_br, rp_sh, rp_nw, rp_br, rp_bx, rp_raw, rp_sr, rr_sh, rr_nw, rr_br, ra_sh, ra_br, ra_bx, ra_raw, va_sh, va_nt, va_nf, va_raw, hb_n, hb_sh, hb_bx, hb_raw, hb_br, sh_n, sh_c, tr_n, tr_b, tr_i, tr_l, tr_t, ty_n, ty_b, ty_i, ty_s, ty_l, ty_t, if_ff, if_tt, Env.set, List.getElem?_cons_succ, List.getElem?_cons_zero, List.set_cons_succ, List.set_cons_zero, List.reverse_cons, List.reverse_nil, List.nil_append, List.cons_append, Option.bind_some, ite_true, ite_false])
theorem Roots.perm {ns rs ts : List Int} (R : Roots ns rs) (hp : ts.Perm rs) : Roots ns ts :=
  ⟨fun r hr => R.per r (hp.mem_iff.mp hr), fun r hr => R.on r (hp.mem_iff.mp hr), (hp.pairwise_iff fun h e => h e.symm).mpr R.one, fun x hx => by
    obtain ⟨r, hr, e⟩ := R.all x hx
    exact ⟨r, hp.mem_iff.mpr hr, e⟩⟩
theorem Roots.uniq {ns rs : List Int} (R : Roots ns rs) {a b : Int} (ha : a ∈ rs) (hb : b ∈ rs) (e : ringF ns a = ringF ns b) : a = b := by
  have key : ∀ rs : List Int, rs.Pairwise (fun a b => ringF ns a ≠ ringF ns b) → a ∈ rs → b ∈ rs → a = b := by
    intro rs
    induction rs with
    | nil => intro _ ha; cases ha
    | cons r rs ih =>
      intro pw ha hb
      obtain ⟨h1, h2⟩ := List.pairwise_cons.mp pw
      rcases List.mem_cons.mp ha with za | za
      · rcases List.mem_cons.mp hb with zb | zb
        · rw [za, zb]
        · exact absurd (by rw [← za]; exact e) (h1 b zb)
      · rcases List.mem_cons.mp hb with zb | zb
        · exact absurd (by rw [← zb]; exact e.symm) (h1 a za)
        · exact ih h2 za zb
  exact key rs R.one ha hb
end Lp

namespace Lp
open PySem PySem.Spec PyProof.Rows L2
local macro_rules | `(tactic| rfl') => `(tactic| try dsimp only [dVar_, gv_sh, gv_ow, gv_bx, gv_raw, gv_exn, gv_st, dC, dRaw, dOp, dUn, dTest, dTruth, dAnd, dOr, dNot, dYes, dIf, dAndV, dOrV, dNotV, dNotT, dChain, dNil, dCons, dTup, dLst, dats, dCB, dNoP, dPart, dSl, dNext, dBreak, dCont, dNever, dDrop, dRet, dRetN, dIfS, dSetG, dPar, dPar3, dAppend, dAppPop, dSetIx, dExt, dAug, dSet0, dSAdd, dSNotIn, dIter_, gi_l, gi_t, gi_b, dRng1, dRng2, dName, dGNil, dGCons, dGTup, dAsg, dFor, dWhile, dCall, dCallR, dArgs_, ga_f, ga_t, argsOf, dLc, wipeE, dListRg, dIndex, dSortSet, dSortSc, dEnum, dEnA, dZip, dIsi, dIsi2, isaT, φI, φB, φC, φNeg, add_i, add_l, add_t, mul_i, mul_l, φIx, sl_l, sl_t, eq_i, eq_s, eq_l, eq_t, eq_b, eq_n, φIsN, isN_n, isN_b, isN_i, isN_s, isN_l, isN_t, φLen, φList, φTuple, φAbs, φInt, φMax, φIsB, φIsNB, its_l, its_t, rd_sh, rd_nw, rd_br, rp_sh, rp_nw, rp_br, rp_bx, rp_raw, rp_sr, rr_sh, rr_nw, rr_br, ra_sh, ra_br, ra_bx, ra_raw, va_sh, va_nt, va_nf, va_raw, hb_n, hb_sh, hb_bx, hb_raw, hb_br, sh_n, sh_c, tr_n, tr_b, tr_i, tr_l, tr_t, ty_n, ty_b, ty_i, ty_s, ty_l, ty_t, if_ff, if_tt, Env.set, List.getElem?_cons_succ, List.getElem?_cons_zero, List.set_cons_succ, List.set_cons_zero, List.reverse_cons, List.reverse_nil, List.nil_append, List.cons_append, Option.bind_some, ite_true, ite_false])
/-- the state after k repetitions -/
def rep (ns ws : List Int) : Nat → List Int
  | 0 => ns
  | k + 1 => callAll (rep ns ws k) ws
end Lp

namespace Lp
open PySem PySem.Spec PyProof.Rows L2
local macro_rules | `(tactic| rfl') => `(tactic| try dsimp only [dVar_, gv_sh, gv_ow, gv_bx, gv_raw, gv_st, dC, dRaw, dOp, dUn, dTest, dTruth, dAnd, dOr, dNot, dYes, dIf, dAndV, dOrV, dNotV, dNotT, dChain, dNil, dCons, dTup, dLst, dats, dCB, dNoP, dPart, dSl, dNext, dBreak, dCont, dNever, dDrop, dRet, dRetN, dIfS, dSetG, dPar, dPar3, dAppend, dAppPop, dSetIx, dExt, dAug, dSet0, dSAdd, dSNotIn, dIter_, gi_l, gi_t, gi_b, dRng1, dRng2, dName, dGNil, dGCons, dGTup, dAsg, dFor, dWhile, dCall, dCallR, dArgs_, ga_f, ga_t, argsOf, dLc, wipeE, dListRg, dIndex, dSortSet, dSortSc, dEnum, dEnA, dZip, dIsi, dIsi2, isaT, φI, φB, φC, φNeg, add_i, add_l, add_t, mul_i, mul_l, φIx, sl_l, sl_t, eq_i, eq_s, eq_l, eq_t, eq_b, eq_n, φIsN, isN_n, isN_b, isN_i, isN_s, isN_l, isN_t, φLen, φList, φTuple, φAbs, φInt, φMax, φIsB, φIsNB, its_l, its_t, rd_sh, rd_nw, rd_br, rp_sh, rp_nw, rp_br, rp_bx, rp_raw, rp_sr, rr_sh, rr_nw, rr_br, ra_sh, ra_br, ra_bx, ra_raw, va_sh, va_nt, va_nf, va_raw, hb_n, hb_sh, hb_bx, hb_raw, hb_br, sh_n, sh_c, tr_n, tr_b, tr_i, tr_l, tr_t, ty_n, ty_b, ty_i, ty_s, ty_l, ty_t, if_ff, if_tt, Env.set, List.getElem?_cons_succ, List.getElem?_cons_zero, List.set_cons_succ, List.set_cons_zero, List.reverse_cons, List.reverse_nil, List.nil_append, List.cons_append, Option.bind_some, ite_true, ite_false])
end Lp

namespace Lp
open PySem PySem.Spec PyProof.Rows L2
section
variable {X : Cx}
end
section
variable {w : Wx} {K : PySem.W.Frag} {ta te : TE} {f g : DTE}
def dCount (f g : DTE) (ε : Env) (Q : R → Env → Prop) : Prop := f ε fun x ε1 => match x.dat.bind PyData.its with
  | some ds => g ε1 fun y ε2 => match y.dat, intsD ds with
    | some (.int k), some ns => Q (.sh (.int (ns.count k : Nat))) ε2
    | _, _ => False
  | none => False
end
section
variable {X : Cx} {K : PySem.W.Frag}
end
section
variable {X : Cx}
end
section
variable {w : Wx} {K : PySem.W.Frag} {te : TE} {f : DTE}
def dSortSetA (f : DTE) (ε : Env) (Q : R → Env → Prop) : Prop := f ε fun r ε1 => match r.dat.bind PyData.its with
  | some ds => match intsD ds with
    | some ns => ns.length < 64 ∧ ∀ ms : List Int, ms.Pairwise (· < ·) → (∀ k, k ∈ ms ↔ k ∈ ns) → Q (.nw (dI ms)) ε1
    | none => False
  | none => False
end
end Lp

namespace Lp
open PySem PySem.Spec PyProof.Rows L2
local macro_rules | `(tactic| rfl') => `(tactic| try dsimp only [dVar_, gv_sh, gv_ow, gv_bx, gv_raw, gv_exn, gv_st, dC, dRaw, dOp, dUn, dTest, dTruth, dAnd, dOr, dNot, dYes, dIf, dAndV, dOrV, dNotV, dNotT, dChain, dNil, dCons, dTup, dLst, dats, dCB, dNoP, dPart, dSl, dNext, dBreak, dCont, dNever, dDrop, dRet, dRetN, dIfS, dSetG, dPar, dPar3, dAppend, dAppPop, dSetIx, dExt, dAug, dSet0, dSAdd, dSNotIn, dIter_, gi_l, gi_t, gi_b, dRng1, dRng2, dName, dGNil, dGCons, dGTup, dAsg, dFor, dWhile, dCall, dCallR, dArgs_, ga_f, ga_t, argsOf, dLc, wipeE, dListRg, dIndex, dSortSet, dSortSc, dEnum, dEnA, dZip, dIsi, dIsi2, isaT, φI, φB, φC, φNeg, add_i, add_l, add_t, mul_i, mul_l, φIx, sl_l, sl_t, eq_i, eq_s, eq_l, eq_t, eq_b, eq_n, φIsN, isN_n, isN_b, isN_i, isN_s, isN_l, isN_t, φLen, φList, φTuple, φAbs, φInt, φMax, φIsB, φIsNB, its_l, its_t, rd_sh, rd_nw, rd_br, rp_sh, rp_nw, rp_br, rp_bx, rp_raw, rp_sr, rr_sh, rr_nw, rr_br, ra_sh, ra_br, ra_bx, ra_raw, va_sh, va_nt, va_nf, va_raw, hb_n, hb_sh, hb_bx, hb_raw, hb_br, sh_n, sh_c, tr_n, tr_b, tr_i, tr_l, tr_t, ty_n, ty_b, ty_i, ty_s, ty_l, ty_t, if_ff, if_tt, Env.set, List.getElem?_cons_succ, List.getElem?_cons_zero, List.set_cons_succ, List.set_cons_zero, List.reverse_cons, List.reverse_nil, List.nil_append, List.cons_append, Option.bind_some, ite_true, ite_false, dCallX, dArgsX_, gx_s, dRaise, dIsX, dAttr, dIsNE, dCount, dSortSetA])
end Lp

namespace Lp
open PySem PySem.Spec PyProof.Rows L2
local macro_rules | `(tactic| rfl') => `(tactic| try dsimp only [dVar_, gv_sh, gv_ow, gv_bx, gv_raw, gv_exn, gv_st, dC, dRaw, dOp, dUn, dTest, dTruth, dAnd, dOr, dNot, dYes, dIf, dAndV, dOrV, dNotV, dNotT, dChain, dNil, dCons, dTup, dLst, dats, dCB, dNoP, dPart, dSl, dNext, dBreak, dCont, dNever, dDrop, dRet, dRetN, dIfS, dSetG, dPar, dPar3, dAppend, dAppPop, dSetIx, dExt, dAug, dSet0, dSAdd, dSNotIn, dIter_, gi_l, gi_t, gi_b, dRng1, dRng2, dName, dGNil, dGCons, dGTup, dAsg, dFor, dWhile, dCall, dCallR, dArgs_, ga_f, ga_t, argsOf, dLc, wipeE, dListRg, dIndex, dSortSet, dSortSc, dEnum, dEnA, dZip, dIsi, dIsi2, isaT, φI, φB, φC, φNeg, add_i, add_l, add_t, mul_i, mul_l, φIx, sl_l, sl_t, eq_i, eq_s, eq_l, eq_t, eq_b, eq_n, φIsN, isN_n, isN_b, isN_i, isN_s, isN_l, isN_t, φLen, φList, φTuple, φAbs, φInt, φMax, φIsB, φIsNB, its_l, its_t, rd_sh, rd_nw, rd_br, rp_sh, rp_nw, rp_br, rp_bx, rp_raw, rp_sr, rr_sh, rr_nw, rr_br, ra_sh, ra_br, ra_bx, ra_raw, va_sh, va_nt, va_nf, va_raw, hb_n, hb_sh, hb_bx, hb_raw, hb_br, sh_n, sh_c, tr_n, tr_b, tr_i, tr_l, tr_t, ty_n, ty_b, ty_i, ty_s, ty_l, ty_t, if_ff, if_tt, Env.set, List.getElem?_cons_succ, List.getElem?_cons_zero, List.set_cons_succ, List.set_cons_zero, List.reverse_cons, List.reverse_nil, List.nil_append, List.cons_append, Option.bind_some, ite_true, ite_false, dCallX, dArgsX_, gx_s, dRaise, dIsX, dAttr, dIsNE, dST0, dSTAdd, dSTIn, dDc, gv_sto, dPub, gv_dco, gv_dsh, dDIn, dDGet, dSortD, dDisp1, dDNew, dDPut, va_dt, va_df, va_ds, rr_dn, rr_db, rr_ds, rw_dn, rw_db, rw_ds])
end Lp

namespace Lp
open PySem PySem.Spec PyProof.Rows L2
local macro_rules | `(tactic| rfl') => `(tactic| try dsimp only [dVar_, gv_sh, gv_ow, gv_bx, gv_raw, gv_exn, gv_st, dC, dRaw, dOp, dUn, dTest, dTruth, dAnd, dOr, dNot, dYes, dIf, dAndV, dOrV, dNotV, dNotT, dChain, dNil, dCons, dTup, dLst, dats, dCB, dNoP, dPart, dSl, dNext, dBreak, dCont, dNever, dDrop, dRet, dRetN, dIfS, dSetG, dPar, dPar3, dAppend, dAppPop, dSetIx, dExt, dAug, dSet0, dSAdd, dSNotIn, dIter_, gi_l, gi_t, gi_b, dRng1, dRng2, dName, dGNil, dGCons, dGTup, dAsg, dFor, dWhile, dCall, dCallR, dArgs_, ga_f, ga_t, argsOf, dLc, wipeE, dListRg, dIndex, dSortSet, dSortSc, dEnum, dEnA, dZip, dIsi, dIsi2, isaT, φI, φB, φC, φNeg, add_i, add_l, add_t, mul_i, mul_l, φIx, sl_l, sl_t, eq_i, eq_s, eq_l, eq_t, eq_b, eq_n, φIsN, isN_n, isN_b, isN_i, isN_s, isN_l, isN_t, φLen, φList, φTuple, φAbs, φInt, φMax, φIsB, φIsNB, its_l, its_t, rd_sh, rd_nw, rd_br, rp_sh, rp_nw, rp_br, rp_bx, rp_raw, rp_sr, rr_sh, rr_nw, rr_br, ra_sh, ra_br, ra_bx, ra_raw, va_sh, va_nt, va_nf, va_raw, hb_n, hb_sh, hb_bx, hb_raw, hb_br, sh_n, sh_c, tr_n, tr_b, tr_i, tr_l, tr_t, ty_n, ty_b, ty_i, ty_s, ty_l, ty_t, if_ff, if_tt, Env.set, List.getElem?_cons_succ, List.getElem?_cons_zero, List.set_cons_succ, List.set_cons_zero, List.reverse_cons, List.reverse_nil, List.nil_append, List.cons_append, Option.bind_some, ite_true, ite_false])
end Lp

namespace Lp
open PySem PySem.Spec PyProof.Rows L2
local macro_rules | `(tactic| rfl') => `(tactic| try dsimp only [dVar_, gv_sh, gv_ow, gv_bx, gv_raw, gv_exn, gv_st, dC, dRaw, dOp, dUn, dTest, dTruth, dAnd, dOr, dNot, dYes, dIf, dAndV, dOrV, dNotV, dNotT, dChain, dNil, dCons, dTup, dLst, dats, dCB, dNoP, dPart, dSl, dNext, dBreak, dCont, dNever, dDrop, dRet, dRetN, dIfS, dSetG, dPar, dPar3, dAppend, dAppPop, dSetIx, dExt, dAug, dSet0, dSAdd, dSNotIn, dIter_, gi_l, gi_t, gi_b, dRng1, dRng2, dName, dGNil, dGCons, dGTup, dAsg, dFor, dWhile, dCall, dCallR, dArgs_, ga_f, ga_t, argsOf, dLc, wipeE, dListRg, dIndex, dSortSet, dSortSc, dEnum, dEnA, dZip, dIsi, dIsi2, isaT, φI, φB, φC, φNeg, add_i, add_l, add_t, mul_i, mul_l, φIx, sl_l, sl_t, eq_i, eq_s, eq_l, eq_t, eq_b, eq_n, φIsN, isN_n, isN_b, isN_i, isN_s, isN_l, isN_t, φLen, φList, φTuple, φAbs, φInt, φMax, φIsB, φIsNB, its_l, its_t, rd_sh, rd_nw, rd_br, rp_sh, rp_nw, rp_br, rp_bx, rp_raw, rp_sr, rr_sh, rr_nw, rr_br, ra_sh, ra_br, ra_bx, ra_raw, va_sh, va_nt, va_nf, va_raw, hb_n, hb_sh, hb_bx, hb_raw, hb_br, sh_n, sh_c, tr_n, tr_b, tr_i, tr_l, tr_t, ty_n, ty_b, ty_i, ty_s, ty_l, ty_t, if_ff, if_tt, Env.set, List.getElem?_cons_succ, List.getElem?_cons_zero, List.set_cons_succ, List.set_cons_zero, List.reverse_cons, List.reverse_nil, List.nil_append, List.cons_append, Option.bind_some, ite_true, ite_false, dCallX, dArgsX_, gx_s, dRaise, dIsX, dAttr, dIsNE, dST0, dSTAdd, dSTIn, dDc, gv_sto, dPub, gv_dco, gv_dsh, dDIn, dDGet, dSortD, dDisp1, dDNew, dDPut, va_dt, va_df, va_ds, rr_dn, rr_db, rr_ds, rw_dn, rw_db, rw_ds])
theorem find_asc {P : Int → Bool} {g : Int} : ∀ {l : List Int}, l.Pairwise (· < ·) → l.find? P = some g → ∀ x ∈ l, P x = true → g ≤ x
  | y :: l, asc, e, x, hx, px => by
    rw [List.find?_cons] at e
    have q := List.pairwise_cons.mp asc
    cases py : P y with
    | true =>
      rw [py] at e
      cases e
      rcases List.mem_cons.mp hx with z | z
      · omega
      · have := q.1 x z; omega
    | false =>
      rw [py] at e
      rcases List.mem_cons.mp hx with z | z
      · rw [z, py] at px; cases px
      · exact find_asc q.2 e x z px
theorem nsI_asc (n : Nat) : (nsI n).Pairwise (· < ·) := List.pairwise_map.mpr (List.Pairwise.imp (fun {x y} h => by omega) List.pairwise_lt_range)
theorem comp_hd_le {ns : List Int} {p z : Int} (hz : z ∈ compF ns p) : (compF ns p).headD 0 ≤ z := by
  have a := comp_ascB ns p
  cases e : compF ns p with
  | nil => rw [e] at hz; cases hz
  | cons y r =>
    rw [e] at hz a
    show y ≤ z
    rcases List.mem_cons.mp hz with q | q
    · omega
    · have := (List.pairwise_cons.mp a).1 z q; omega
theorem hd_asc {ns : List Int} {CS : List (List Int)} (h : Stt ns) (hC : CompsOf ns CS) : (hdLB CS).Pairwise (· < ·) := by
  have nd := (hd_coverB h hC).nd
  unfold hdLB at nd ⊢
  rw [List.map_map] at nd
  unfold List.Nodup at nd
  rw [List.pairwise_map] at nd ⊢
  refine (nd.and hC.2.1).imp_of_mem ?_
  rintro a b ha hb ⟨ne, le⟩
  obtain ⟨i, hi, rfl⟩ := (hC.2.2 a).mp ha
  obtain ⟨j, hj, rfl⟩ := (hC.2.2 b).mp hb
  cases e1 : compF ns (i : Int) with
  | nil => exact absurd e1 (List.ne_nil_of_mem (comp_self (per_nat hi)))
  | cons x r =>
    cases e2 : compF ns (j : Int) with
    | nil => exact absurd e2 (List.ne_nil_of_mem (comp_self (per_nat hj)))
    | cons y t =>
      rw [e1, e2] at le
      show x < y
      have nxy : x ≠ y := fun z => ne (by
        show headF ns ((compF ns (i : Int)).headD 0) = headF ns ((compF ns (j : Int)).headD 0)
        rw [e1, e2]; exact congrArg (headF ns) z)
      rw [HT.lexLt_cons, if_neg (Ne.symm nxy)] at le
      have := of_decide_eq_false le
      omega
theorem hd_find {ns : List Int} {CS : List (List Int)} (h : Stt ns) (hC : CompsOf ns CS) (P : Int → Bool) (con : ∀ p q, Per ns p → Per ns q → headF ns p = headF ns q → P p = P q) : (hdLB CS).find? P = (nsI ns.length).find? P := by
  have C := hd_coverB h hC
  cases e : (nsI ns.length).find? P with
  | none =>
    refine List.find?_eq_none.mpr fun x hx => ?_
    exact List.find?_eq_none.mp e x (nsI_mem.mpr (C.per x hx))
  | some g =>
    have pg := List.find?_some e
    have mg : Per ns g := nsI_mem.mp (List.mem_of_find?_eq_some e)
    have hh := comp_mem.mp (comp_hdB mg)
    have le := comp_hd_le (comp_self mg)
    have ph : P ((compF ns g).headD 0) = true := by rw [con _ g hh.1 mg hh.2]; exact pg
    have ge := find_asc (nsI_asc _) e _ (nsI_mem.mpr hh.1) ph
    have eg : (compF ns g).headD 0 = g := by omega
    have hG : compF ns g ∈ CS := (hC.2.2 _).mpr ⟨g.toNat, by have := mg.1; have := mg.2; omega, by rw [show ((g.toNat : Nat) : Int) = g by have := mg.1; omega]⟩
    have hm : g ∈ hdLB CS := by rw [← eg]; exact List.mem_map.mpr ⟨_, hG, rfl⟩
    cases f : (hdLB CS).find? P with
    | none => exact absurd pg (by simpa using List.find?_eq_none.mp f g hm)
    | some x =>
      have l1 := find_asc (hd_asc h hC) f g hm pg
      have l2 := find_asc (nsI_asc _) e x (nsI_mem.mpr (C.per x (List.mem_of_find?_eq_some f))) (List.find?_some f)
      rw [show x = g by omega]
/-- the first person whose component has other members -/
def apF (ns ms : List Int) : Option Int := (nsI ns.length).find? fun p => decide (compF ns p ≠ compF ms p)
def smF (ns ms : List Int) (p : Int) : List Int := (ringF ns p).filter fun z => decide (z ∈ ringF ms p)
def pbarD (ns ms : List Int) : PyData := match apF ns ms with
  | some p => .tuple [.str "people", .int p]
  | none => .none
theorem ap_find {ns ms : List Int} (h : Stt ns) (k : Stt ms) (l : ms.length = ns.length) {CS CB : List (List Int)} (hC : CompsOf ns CS) (hB : CompsOf ms CB) : (CS.find? fun G => decide (G ∉ CB)).map (fun G => G.headD 0) = apF ns ms := by
  have pm : ∀ {p}, Per ns p → Per ms p := fun {p} q => ⟨q.1, by rw [l]; exact q.2⟩
  have sym : ∀ p q, Per ns p → Per ns q → headF ns p = headF ns q → compF ns p = compF ms p → compF ns q = compF ms q := fun p q hp hq e z => by
    have a : compF ns q = compF ns p := comp_sameB e.symm
    have b : q ∈ compF ms p := by rw [← z, ← a]; exact comp_self hq
    rw [a, z, comp_sameB (comp_mem.mp b).2]
  have key : (hdLB CS).find? (fun p => decide (compF ns p ≠ compF ms p)) = apF ns ms := hd_find h hC _ fun p q hp hq e => by
    have := sym p q hp hq e
    have := sym q p hq hp e.symm
    by_cases z : compF ns p = compF ms p
    · simp [z, sym p q hp hq e z]
    · simp [z]
      intro y
      exact z (sym q p hq hp e.symm y)
  rw [← key]
  unfold hdLB
  rw [List.find?_map]
  congr 1
  have eqf : ∀ G ∈ CS, decide (G ∉ CB) = ((fun p => decide (compF ns p ≠ compF ms p)) ∘ fun G => G.headD 0) G := fun G hG => by
    obtain ⟨j, hj, rfl⟩ := (hC.2.2 G).mp hG
    have pj : Per ns (j : Int) := per_nat hj
    have hh := comp_mem.mp (comp_hdB pj)
    show _ = decide (compF ns ((compF ns (j : Int)).headD 0) ≠ compF ms ((compF ns (j : Int)).headD 0))
    rw [comp_sameB hh.2]
    refine decide_eq_decide.mpr (not_congr ⟨fun m => ?_, fun m => ?_⟩)
    · obtain ⟨i, hi, e⟩ := (hB.2.2 _).mp m
      have : (compF ns (j : Int)).headD 0 ∈ compF ms (i : Int) := by rw [e]; exact comp_hdB pj
      rw [comp_sameB (comp_mem.mp this).2, e]
    · have ph := hh.1
      refine (hB.2.2 _).mpr ⟨((compF ns (j : Int)).headD 0).toNat, by have := ph.1; have := ph.2; omega, ?_⟩
      rw [show ((((compF ns (j : Int)).headD 0).toNat : Nat) : Int) = (compF ns (j : Int)).headD 0 by have := ph.1; omega]
      exact m.symm
  have fc : ∀ (l : List (List Int)) (f g : List Int → Bool), (∀ G ∈ l, f G = g G) → l.find? f = l.find? g := by
    intro l f g hfg
    induction l with
    | nil => rfl
    | cons x r ih =>
      rw [List.find?_cons, List.find?_cons, hfg x List.mem_cons_self, ih fun G hG => hfg G (List.mem_cons_of_mem _ hG)]
  exact fc CS _ _ eqf
theorem in_dTB {neg : Bool} {k : List Int} {M : List (List Int)} {Q : R → Prop} (q : Q (.sh (.bool (if neg then !decide (k ∈ M) else decide (k ∈ M))))) : φIn neg (.tuple (dI k)) (.list (dT M)) Q := by
  have e : ((dT M).any fun z => PyData.eqv z (.tuple (dI k))) = decide (k ∈ M) := by
    show ((M.map fun ns => PyData.tuple (dI ns)).any _) = _
    rw [List.any_map]
    by_cases m : k ∈ M
    · rw [decide_eq_true m]
      exact List.any_eq_true.mpr ⟨k, m, by show PyData.eqv _ _ = true; rw [eqvT, decide_eq_true rfl]⟩
    · rw [decide_eq_false m]
      refine List.any_eq_false.mpr fun x hx => ?_
      show ¬ PyData.eqv (.tuple (dI x)) (.tuple (dI k)) = true
      rw [eqvT]
      exact fun z => m (by rw [← of_decide_eq_true z]; exact hx)
  show (match (none : Option V), flatsD (dT M) with
    | some v, some vs => Q (.sh (.bool (if neg then !inV v vs else inV v vs)))
    | _, _ => ((PyData.list (dT M) = .list (dT M) ∧ SeqAt.shaped (.tuple (dI k)) = true ∧ SeqAt.shaped (.list (dT M)) = true) ∧ Q (.sh (.bool (if neg then !((dT M).any fun z => PyData.eqv z (.tuple (dI k))) else (dT M).any fun z => PyData.eqv z (.tuple (dI k)))))))
  rw [e]
  exact ⟨⟨rfl, shT k, shG M⟩, q⟩
/-- people_bar: one, other, others, group -/
def b_people_bar : DTS := (dSeq (dSetG false 2 (dCall p_components (dCons (dVar 1) dNil)))
  (dSeq (dFor (dIter (dCall p_components (dCons (dVar 0) dNil))) (dName 3) (dIfS (dTest (dOp (φIn true) (dVar 3) (dVar 2))) (dRet (dTup (dCons (dC (.str "people")) (dCons (dOp φIx (dVar 3) (dC (.int 0))) dNil)))) dNext))
  (dRet (dC .none))))
abbrev k_people_bar : Nat := 2
def p_people_bar : DSp := fun args c Q => ∃ (d e : PyData) (ns ms : List Int), args = [.sh d, .sh e] ∧ PyData.its d = some (dI ns) ∧ PyData.its e = some (dI ms) ∧ Stt ns ∧ Stt ms ∧ ms.length = ns.length ∧ ns.length ≤ 60 ∧ Q (.sh (pbarD ns ms)) c
theorem mon_people_bar : MonF p_people_bar := fun args c A B h ⟨d, e, ns, ms, ea, h1, h2, h3, h4, h5, h6, q⟩ => ⟨d, e, ns, ms, ea, h1, h2, h3, h4, h5, h6, h _ _ q⟩
theorem pbar_loop {CB : List (List Int)} {s0 s1 : SV} {Δ : DEnds} {c : Nat} : ∀ (CS : List (List Int)) (y : SV), (∀ G ∈ CS, G ≠ []) → (match CS.find? fun G => decide (G ∉ CB) with
      | some G => Δ.rt (.sh (.tuple [.str "people", .int (G.headD 0)])) ⟨[s0, s1, .sh (.list (dT CB)), .sh (.tuple (dI G))], c⟩
      | none => ∀ y, Δ.nx ⟨[s0, s1, .sh (.list (dT CB)), y], c⟩) →
    forD (dName 3) (dIfS (dTest (dOp (φIn true) (dVar 3) (dVar 2))) (dRet (dTup (dCons (dC (.str "people")) (dCons (dOp φIx (dVar 3) (dC (.int 0))) dNil)))) dNext) Δ (dT CS) ⟨[s0, s1, .sh (.list (dT CB)), y], c⟩
  | [], y, _, q => q y
  | G :: CS, y, ne, q => by
    show forD _ _ _ (.tuple (dI G) :: dT CS) _
    refine for_cons ?_
    rfl'
    rw [List.find?_cons] at q
    refine in_dTB ?_
    rfl'
    by_cases m : G ∈ CB
    · rw [decide_eq_false (fun z => z m)] at q
      rw [decide_eq_true m]
      refine if_f (by decide) ?_
      exact pbar_loop CS _ (fun X hX => ne X (List.mem_cons_of_mem _ hX)) q
    · rw [decide_eq_true m] at q
      rw [decide_eq_false m]
      refine if_t (by decide) ?_
      cases G with
      | nil => exact absurd rfl (ne [] List.mem_cons_self)
      | cons g r => exact ⟨.int g, atI_dI (ns := g :: r) (by decide) (by rw [List.length_cons]; omega), q⟩
theorem comps_ne {ns : List Int} {CS : List (List Int)} (hC : CompsOf ns CS) : ∀ G ∈ CS, G ≠ [] := fun G hG => by
  obtain ⟨j, hj, rfl⟩ := (hC.2.2 G).mp hG
  exact List.ne_nil_of_mem (comp_self (per_nat hj))
theorem m_people_bar : ∀ args c Q, p_people_bar args c Q → defF k_people_bar b_people_bar args c Q := by
  rintro _ c Q ⟨d, e, ns, ms, rfl, h1, h2, h3, h4, h5, h6, q⟩
  show b_people_bar _ ⟨[.sh d, .sh e, .un, .un], c⟩
  unfold b_people_bar
  refine sq_ ?_
  rfl'
  refine ⟨e, ms, rfl, h2, h4, by omega, fun CB hB => ?_⟩
  rfl'
  refine sq_ ?_
  rfl'
  refine ⟨d, ns, rfl, h1, h3, h6, fun CS hC => ?_⟩
  rfl'
  refine ⟨rfl, ?_⟩
  have ap := ap_find h3 h4 h5 hC hB
  unfold pbarD at q
  rw [← ap] at q
  refine pbar_loop CS _ (comps_ne hC) ?_
  cases f : CS.find? fun G => decide (G ∉ CB) with
  | some G => rw [f] at q; exact q
  | none => rw [f] at q; intro y; try dsimp only [dVar_, gv_sh, gv_ow, gv_bx, gv_raw, gv_exn, gv_st, dC, dRaw, dOp, dUn, dTest, dTruth, dAnd, dOr, dNot, dYes, dIf, dAndV, dOrV, dNotV, dNotT, dChain, dNil, dCons, dTup, dLst, dats, dCB, dNoP, dPart, dSl, dNext, dBreak, dCont, dNever, dDrop, dRet, dRetN, dIfS, dSetG, dPar, dPar3, dAppend, dAppPop, dSetIx, dExt, dAug, dSet0, dSAdd, dSNotIn, dIter_, gi_l, gi_t, gi_b, dRng1, dRng2, dName, dGNil, dGCons, dGTup, dAsg, dFor, dWhile, dCall, dCallR, dArgs_, ga_f, ga_t, argsOf, dLc, wipeE, dListRg, dIndex, dSortSet, dSortSc, dEnum, dEnA, dZip, dIsi, dIsi2, isaT, φI, φB, φC, φNeg, add_i, add_l, add_t, mul_i, mul_l, φIx, sl_l, sl_t, eq_i, eq_s, eq_l, eq_t, eq_b, eq_n, φIsN, isN_n, isN_b, isN_i, isN_s, isN_l, isN_t, φLen, φList, φTuple, φAbs, φInt, φMax, φIsB, φIsNB, its_l, its_t, rd_sh, rd_nw, rd_br, rp_sh, rp_nw, rp_br, rp_bx, rp_raw, rp_sr, rr_sh, rr_nw, rr_br, ra_sh, ra_br, ra_bx, ra_raw, va_sh, va_nt, va_nf, va_raw, hb_n, hb_sh, hb_bx, hb_raw, hb_br, sh_n, sh_c, tr_n, tr_b, tr_i, tr_l, tr_t, ty_n, ty_b, ty_i, ty_s, ty_l, ty_t, if_ff, if_tt, Env.set, List.getElem?_cons_succ, List.getElem?_cons_zero, List.set_cons_succ, List.set_cons_zero, List.reverse_cons, List.reverse_nil, List.nil_append, List.cons_append, Option.bind_some, ite_true, ite_false, dCallX, dArgsX_, gx_s, dRaise, dIsX, dAttr, dIsNE, dST0, dSTAdd, dSTIn, dDc, gv_sto, dPub, gv_dco, gv_dsh, dDIn, dDGet, dSortD, dDisp1, dDNew, dDPut, va_dt, va_df, va_ds, rr_dn, rr_db, rr_ds, rw_dn, rw_db, rw_ds]; exact q
def smT (ns ms : List Int) (p : Int) : List Int := if smF ns ms p = [] then [] else turnTo (smF ns ms p) (minF (smF ns ms p))
/-- shared_members: one, other, person, ring, shared, member -/
def b_shared_members : DTS := (dSeq (dSetG false 3 (dCall p_ring_of (dCons (dVar 1) (dCons (dVar 2) dNil))))
  (dSeq (dSetG false 4 (dLc (dIter (dCall p_ring_of (dCons (dVar 0) (dCons (dVar 2) dNil)))) (dName 5) (dTest (dOp (φIn false) (dVar 5) (dVar 3))) (dVar 5) [5]))
  (dRet (dIf (dTruth (dVar 4)) (dCall p_turned (dCons (dVar 4) (dCons (dCB φMin (dCons (dVar 4) dNil)) dNil))) (dLst dNil)))))
abbrev k_shared_members : Nat := 3
def p_shared_members : DSp := fun args c Q => ∃ (d e : PyData) (ns ms : List Int) (p : Int), args = [.sh d, .sh e, .sh (.int p)] ∧ PyData.its d = some (dI ns) ∧ PyData.its e = some (dI ms) ∧ Stt ns ∧ Stt ms ∧ ms.length = ns.length ∧ Per ns p ∧ Q (.nw (dI (smT ns ms p))) c
theorem mon_shared_members : MonF p_shared_members := fun args c A B h ⟨d, e, ns, ms, p, ea, h1, h2, h3, h4, h5, h6, q⟩ => ⟨d, e, ns, ms, p, ea, h1, h2, h3, h4, h5, h6, h _ _ q⟩
theorem m_shared_members : ∀ args c Q, p_shared_members args c Q → defF k_shared_members b_shared_members args c Q := by
  rintro _ c Q ⟨d, e, ns, ms, p, rfl, h1, h2, h3, h4, h5, h6, q⟩
  show b_shared_members _ ⟨[.sh d, .sh e, .sh (.int p), .un, .un, .un], c⟩
  unfold b_shared_members
  refine sq_ ?_
  rfl'
  refine ⟨e, ms, p, rfl, h2, h4, ⟨h6.1, by rw [h5]; exact h6.2⟩, ?_⟩
  rfl'
  refine sq_ ?_
  rfl'
  refine ⟨d, ns, p, rfl, h1, h3, h6, ?_⟩
  rfl'
  have rl : (ringF ns p).length ≤ 1000000 := by
    have := ring_le h3 h6
    have := h3.le
    omega
  refine lc_if (fun z : Int => .int z) (fun z : Int => .int z) (fun z => decide (z ∈ ringF ms p)) (ringF ns p) [] (fun z hz Y N hY hN => ?_) (by show 0 + _ ≤ _; omega) ?_
  · rfl'
    refine φIn_dI rfl ?_
    rfl'
    by_cases m : z ∈ ringF ms p
    · rw [decide_eq_true m]
      exact hY (decide_eq_true m) _ _ rfl rfl
    · rw [decide_eq_false m]
      exact hN (decide_eq_false m) _ rfl
  rw [List.nil_append, show ((ringF ns p).filter fun z => decide (z ∈ ringF ms p)).map (fun z : Int => PyData.int z) = dI (smF ns ms p) from rfl]
  unfold smT at q
  generalize eS : smF ns ms p = S at q
  cases S with
  | nil =>
    rw [if_pos rfl] at q
    rfl'
    refine if_f (by decide) ?_
    exact q
  | cons z r =>
    rw [if_neg (fun z => nomatch z)] at q
    rfl'
    refine if_t rfl ?_
    refine φMin_dI (ns := z :: r) rfl (fun z => nomatch z) fun m hm => ?_
    rfl'
    have len : (z :: r).length ≤ 1000000 := by
      rw [← eS]
      exact Nat.le_trans (List.length_filter_le _ _) rl
    refine ⟨true, z :: r, m, rfl, hm.1, len, ?_⟩
    have em : m = minF (z :: r) := by
      have := minF_ok (ms := z :: r) (fun z => nomatch z)
      exact Int.le_antisymm (hm.2 _ this.1) (this.2 _ hm.1)
    rw [em]
    exact q
theorem smT_nil {ns ms : List Int} {p : Int} : smT ns ms p = [] ↔ smF ns ms p = [] := by
  unfold smT
  by_cases e : smF ns ms p = []
  · rw [if_pos e]; exact ⟨fun _ => e, fun _ => rfl⟩
  · rw [if_neg e]
    refine ⟨fun z => ?_, fun z => absurd z e⟩
    have := turnTo_len (smF ns ms p) (minF (smF ns ms p))
    rw [z] at this
    exact List.length_eq_zero_iff.mp this.symm
def mnF (ns ms : List Int) (p : Int) : Int := minF (smF ns ms p)
theorem sm_same {ns ms : List Int} (h : Stt ns) (k : Stt ms) (l : ms.length = ns.length) (ap : apF ns ms = none) {p q : Int} (hp : Per ns p) (hq : Per ns q) (e : ringF ns p = ringF ns q) : smF ns ms p = smF ns ms q := by
  have pm : ∀ {p}, Per ns p → Per ms p := fun {p} q => ⟨q.1, by rw [l]; exact q.2⟩
  have same : compF ns p = compF ms p := by
    have := List.find?_eq_none.mp ap p (nsI_mem.mpr hp)
    simpa using this
  have m : q ∈ compF ms p := by rw [← same]; exact comp_mem.mpr ⟨hq, ((head_iff h.lo hp.1 hp.2 hq.1 hq.2).mpr e).symm⟩
  have r2 : ringF ms p = ringF ms q := (head_iff k.lo (pm hp).1 (pm hp).2 (pm hq).1 (pm hq).2).mp (comp_mem.mp m).2.symm
  unfold smF
  rw [e, r2]
theorem smT_head {ns ms : List Int} {p : Int} (ne : smF ns ms p ≠ []) : ∃ r, smT ns ms p = mnF ns ms p :: r := by
  unfold smT mnF
  rw [if_neg ne]
  have m := (minF_ok ne).1
  generalize minF (smF ns ms p) = z at m
  unfold turnTo
  have lt : (smF ns ms p).idxOf z < (smF ns ms p).length := List.idxOf_lt_length_of_mem m
  rw [List.drop_eq_getElem_cons lt, List.getElem_idxOf lt]
  exact ⟨_, rfl⟩
end Lp

namespace Lp
open PySem PySem.Spec PyProof.Rows L2
local macro_rules | `(tactic| rfl') => `(tactic| try dsimp only [dVar_, gv_sh, gv_ow, gv_bx, gv_raw, gv_exn, gv_st, dC, dRaw, dOp, dUn, dTest, dTruth, dAnd, dOr, dNot, dYes, dIf, dAndV, dOrV, dNotV, dNotT, dChain, dNil, dCons, dTup, dLst, dats, dCB, dNoP, dPart, dSl, dNext, dBreak, dCont, dNever, dDrop, dRet, dRetN, dIfS, dSetG, dPar, dPar3, dAppend, dAppPop, dSetIx, dExt, dAug, dSet0, dSAdd, dSNotIn, dIter_, gi_l, gi_t, gi_b, dRng1, dRng2, dName, dGNil, dGCons, dGTup, dAsg, dFor, dWhile, dCall, dCallR, dArgs_, ga_f, ga_t, argsOf, dLc, wipeE, dListRg, dIndex, dSortSet, dSortSc, dEnum, dEnA, dZip, dIsi, dIsi2, isaT, φI, φB, φC, φNeg, add_i, add_l, add_t, mul_i, mul_l, φIx, sl_l, sl_t, eq_i, eq_s, eq_l, eq_t, eq_b, eq_n, φIsN, isN_n, isN_b, isN_i, isN_s, isN_l, isN_t, φLen, φList, φTuple, φAbs, φInt, φMax, φIsB, φIsNB, its_l, its_t, rd_sh, rd_nw, rd_br, rp_sh, rp_nw, rp_br, rp_bx, rp_raw, rp_sr, rr_sh, rr_nw, rr_br, ra_sh, ra_br, ra_bx, ra_raw, va_sh, va_nt, va_nf, va_raw, hb_n, hb_sh, hb_bx, hb_raw, hb_br, sh_n, sh_c, tr_n, tr_b, tr_i, tr_l, tr_t, ty_n, ty_b, ty_i, ty_s, ty_l, ty_t, if_ff, if_tt, Env.set, List.getElem?_cons_succ, List.getElem?_cons_zero, List.set_cons_succ, List.set_cons_zero, List.reverse_cons, List.reverse_nil, List.nil_append, List.cons_append, Option.bind_some, ite_true, ite_false])
end Lp

namespace Lp
open PySem PySem.Spec PyProof.Rows L2
section
variable {w : Wx} {K : PySem.W.Frag} {te : TE} {f : DTE}
end
end Lp

namespace Lp
open PySem PySem.Spec PyProof.Rows L2
theorem zp_no_len : typeLookup (.type "zip") "__len__" = pure none := am_miss_of_fast (by decide +kernel)
theorem zp_no_hint : typeLookup (.type "zip") "__length_hint__" = pure none := am_miss_of_fast (by decide +kernel)
/-- a zip at its i-th turn: nothing is out yet, or a pair is -/
def ZpAt (h : Heap) (z TI TO : Addr) : Prop := (IsZip h z TI TO .none ∧ ∃ a b, IsPair h TO a b) ∨ ∃ T f oT, IsZipHeld h z TI TO T f ∧ h.get? T = some oT ∧ T ≠ z
structure Zp (h : Heap) (z TI TO i1 i2 l1 l2 : Addr) (k : Nat) : Prop where
  at_ : ZpAt h z TI TO
  ti : IsPair h TI (.ref i1) (.ref i2)
  one : h.IsListIter i1 l1 k
  two : h.IsListIter i2 l2 k
section
variable {prog : Program} {w : World} {A : Around} {E : Value → Shared → Prop} {s : Shared} {z TI TO i1 i2 l1 l2 : Addr} {k : Nat} {xs ys : Array Value} {x y : Value} {Q : Option Value → Shared → Prop}
theorem Zp.ty (Z : Zp s.heap z TI TO i1 i2 l1 l2 k) : s.TypeIs (.ref z) "zip" := by
  rcases Z.at_ with ⟨h, _⟩ | ⟨T, f, oT, h, _⟩
  · exact ⟨_, h, rfl⟩
  · exact ⟨_, h, rfl⟩
theorem Zp.item (D : ZipApart z TI TO i1 i2 l1 l2) (Z : Zp s.heap z TI TO i1 i2 l1 l2 k) (hl1 : s.heap.IsList l1 xs) (hl2 : s.heap.IsList l2 ys) (hx : xs[k]? = some x) (hy : ys[k]? = some y)
    (hQ : ∀ h', Zp h' z TI TO i1 i2 l1 l2 (k + 1) → IsPair h' s.heap.objs.size x y → h'.objs.size = s.heap.objs.size + 1 → (∀ c o, c ∉ [z, TO, i1, i2] → s.heap.get? c = some o → h'.get? c = some o) → Q (some (.ref s.heap.objs.size)) { s with heap := h' }) :
    wpAny (model prog w) A (pyNext (.ref z)) Q E s := by
  have lz : z < s.heap.objs.size := by
    obtain ⟨o, h, _⟩ := Z.ty
    exact Heap.lt_size h
  have out : ∀ {c : Addr}, c ∉ [z, TO, i1, i2] → c ≠ z ∧ c ≠ TO ∧ c ≠ i1 ∧ c ≠ i2 := fun {c} h => by
    refine ⟨?_, ?_, ?_, ?_⟩ <;> (intro e; exact h (by simp [e]))
  rcases Z.at_ with ⟨h0, a, b, hTO⟩ | ⟨T, f, oT, h0, hT, hTz⟩
  · refine wpAny_pyNext_zip_item D h0 Z.ti hTO Z.one Z.two hl1 hl2 hx hy fun h' a1 a2 a3 a4 a5 a6 a7 => hQ h' ⟨.inr ⟨_, false, _, a1, a5, Nat.ne_of_gt lz⟩, a7 _ _ D.TIz D.TITO D.TIi1 D.TIi2 Z.ti, a3, a4⟩ a5 a6 fun c o hc e => ?_
    obtain ⟨c1, c2, c3, c4⟩ := out hc
    exact a7 c o c1 c2 c3 c4 e
  · refine wpAny_pyNext_zip_item_held D h0 hT Z.ti Z.one Z.two hl1 hl2 hx hy fun h' a1 a3 a4 a5 a6 a7 => ?_
    have there : ∃ o, h'.get? T = some o := by
      by_cases q1 : T = i1
      · obtain ⟨o, e, _⟩ := a3; exact ⟨o, by rw [q1]; exact e⟩
      · by_cases q2 : T = i2
        · obtain ⟨o, e, _⟩ := a4; exact ⟨o, by rw [q2]; exact e⟩
        · exact ⟨oT, a7 T oT hTz q1 q2 hT⟩
    obtain ⟨o2, e2⟩ := there
    refine hQ h' ⟨.inr ⟨_, true, _, a1, e2, hTz⟩, a7 _ _ D.TIz D.TIi1 D.TIi2 Z.ti, a3, a4⟩ a5 a6 fun c o hc e => ?_
    obtain ⟨c1, c2, c3, c4⟩ := out hc
    exact a7 c o c1 c3 c4 e
theorem Zp.fin (hh : A.handled = none) (D : ZipApart z TI TO i1 i2 l1 l2) (Z : Zp s.heap z TI TO i1 i2 l1 l2 k) (hl1 : s.heap.IsList l1 xs) (hl2 : s.heap.IsList l2 ys) (hend : xs[k]? = none ∨ ys[k]? = none)
    (hQ : ∀ h', (∀ c o, c ∉ [z, TO, i1, i2] → s.heap.get? c = some o → h'.get? c = some o) → Q none { s with heap := h' }) :
    wpAny (model prog w) A (pyNext (.ref z)) Q E s := by
  have out : ∀ {c : Addr}, c ∉ [z, TO, i1, i2] → c ≠ z ∧ c ≠ TO ∧ c ≠ i1 ∧ c ≠ i2 := fun {c} h => by
    refine ⟨?_, ?_, ?_, ?_⟩ <;> (intro e; exact h (by simp [e]))
  rcases Z.at_ with ⟨h0, a, b, hTO⟩ | ⟨T, f, oT, h0, hT, hTz⟩
  · refine wpAny_pyNext_zip_end hh D h0 Z.ti hTO Z.one Z.two hl1 hl2 hend fun h' a7 => hQ h' fun c o hc e => ?_
    obtain ⟨c1, c2, c3, c4⟩ := out hc
    exact a7 c o c1 c2 c3 c4 e
  · refine wpAny_pyNext_zip_end_held hh D h0 hT Z.ti Z.one Z.two hl1 hl2 hend fun h' a7 => hQ h' fun c o hc e => ?_
    obtain ⟨c1, c2, c3, c4⟩ := out hc
    exact a7 c o c1 c3 c4 e
end
theorem Zp.keep {h h' : Heap} {z TI TO i1 i2 l1 l2 : Addr} {k : Nat} (Z : Zp h z TI TO i1 i2 l1 l2 k) (up : ∀ b u, b ∈ [z, TI, TO, i1, i2, l1, l2] → h.get? b = some u → h'.get? b = some u) (th : ∀ b u, h.get? b = some u → ∃ v, h'.get? b = some v) : Zp h' z TI TO i1 i2 l1 l2 k where
  at_ := by
    rcases Z.at_ with ⟨h0, a, b, q⟩ | ⟨T, f, oT, h0, hT, n⟩
    · exact .inl ⟨up z _ (by simp) h0, a, b, up TO _ (by simp) q⟩
    · obtain ⟨v, e⟩ := th T oT hT
      exact .inr ⟨T, f, v, up z _ (by simp) h0, e, n⟩
  ti := up TI _ (by simp) Z.ti
  one := Z.one.at fun o q => up i1 o (by simp) q
  two := Z.two.at fun o q => up i2 o (by simp) q
theorem _root_.PySem.Heap.IsList.keep2 {h h' : Heap} {l : Addr} {xs : Array Value} (q : h.IsList l xs) (k : ∀ u, h.get? l = some u → h'.get? l = some u) : h'.IsList l xs := by
  obtain ⟨o, e, r⟩ := q
  exact ⟨o, k o e, r⟩
section
variable {P : Program} {w : World} {fs ex : List Addr} {H : Hp} {h h' : Heap} {T : Addr} {o : HO}
theorem un_turned (k : ∀ b u, b ∉ ex → h.get? b = some u → h'.get? b = some u) (hT : h.objs.size ≤ T) (hn : H T = none) : Un fs ex H (upd H T o) h h' where
  keep := fun b u q _ _ hx => k b u hx q
  slot := fun b u q _ _ hx => ⟨u.slots, k b u hx q⟩
  free := fun b u q n _ => by rw [upd_ne (Nat.ne_of_lt (Nat.lt_of_lt_of_le (Heap.lt_size q) hT))]; exact n
  there := fun b u q hx => ⟨u, k b u hx q⟩
  tups := fun b xs q => (upd_ne (ne_of_none q hn)).trans q
  frzs := fun b u xs q => (upd_ne (ne_of_none q hn)).trans q
  tbls := fun b ps q => ⟨#[], by rw [upd_ne (ne_of_none q hn), q]; simp⟩
theorem un_turned0 (k : ∀ b u, b ∉ ex → h.get? b = some u → h'.get? b = some u) : Un fs ex H H h h' where
  keep := fun b u q _ _ hx => k b u hx q
  slot := fun b u q _ _ hx => ⟨u.slots, k b u hx q⟩
  free := fun b u q n _ => n
  there := fun b u q hx => ⟨u, k b u hx q⟩
  tups := fun b xs q => q
  frzs := fun b u xs q => q
  tbls := fun b ps q => ⟨#[], by rw [q]; simp⟩
theorem hok_turned (x : HOk P w H h) (k : ∀ b u, b ∉ ex → h.get? b = some u → h'.get? b = some u) (hf : ∀ b ∈ ex, H b = none) (hT : h.objs.size ≤ T) (new : ObjOk P w (upd H T o) h' T o) : HOk P w (upd H T o) h' := fun b u e => by
  have hn : H T = none := x.fresh hT
  have nit : ∀ b u, H b = some u → b ∉ ex := fun b u e z => by rw [hf b z] at e; cases e
  by_cases hb : b = T
  · subst hb; rw [upd_same] at e; cases e; exact new
  · rw [upd_ne hb] at e
    refine (x b u e).stay (fun c v hc q => k c v ?_ q) (fun c q => (upd_ne (ne_of_none q hn)).trans q) fun c xs q => (upd_ne (ne_of_none q hn)).trans q
    exact hc.elim (fun z => z ▸ nit b u e) fun z => nit c _ z
theorem hok_turned0 (x : HOk P w H h) (k : ∀ b u, b ∉ ex → h.get? b = some u → h'.get? b = some u) (hf : ∀ b ∈ ex, H b = none) : HOk P w H h' := fun b u e => by
  have nit : ∀ b u, H b = some u → b ∉ ex := fun b u e z => by rw [hf b z] at e; cases e
  exact (x b u e).stay (fun c v hc q => k c v (hc.elim (fun z => z ▸ nit b u e) fun z => nit c _ z) q) (fun _ q => q) fun _ _ q => q
end
/-- the pairs of two lists, laid one behind the other -/
inductive ZipH : Hp → List V → List V → List V → Hp → Prop
  | nil {H : Hp} {xs ys : List V} : (xs = [] ∨ ys = []) → ZipH H xs ys [] H
  | cons {H H' : Hp} {x y : V} {xs ys out : List V} {T : Addr} (ob : Obj) : ob.dict = none → H T = none → ZipH (upd H T (.frz ob (.tup [x, y]))) xs ys out H' → ZipH H (x :: xs) (y :: ys) (.ref T :: out) H'
theorem ZipH.len {H H' : Hp} {xs ys out : List V} (h : ZipH H xs ys out H') : out.length ≤ xs.length := by
  induction h with
  | nil _ => exact Nat.zero_le _
  | cons _ _ _ _ ih => exact Nat.succ_le_succ ih
theorem zp_drain {P : Program} {w : World} {fs : List Addr} {H0 : Hp} {h0 : Heap} {A : Around} {R : Result → Shared → Prop} {S z TI TO i1 i2 l1 l2 : Addr} {res : Value} {us vs : List Value} {xs0 ys0 : List V} {g : Array GenState} {d : Drawn} {tk : Nat} {os : OsState}
    (hh : A.handled = none) (D : ZipApart z TI TO i1 i2 l1 l2) (hS : S ∉ [z, TI, TO, i1, i2, l1, l2]) (hl : l1 ∉ [S, z, TO, i1, i2]) (hl2 : l2 ∉ [S, z, TO, i1, i2]) (ru : Vals xs0 us) (rv : Vals ys0 vs) (hlen : us.length ≤ sizeLine) :
    ∀ (n k : Nat) (H : Hp) (h : Heap) (acc : Array Value) (c : Nat) (out : List V), us.length = k + n → Un fs [S, z, TO, i1, i2] H0 H h0 h → HOk P w H h → (∀ b ∈ [S, z, TO, i1, i2], H b = none ∧ b < h.objs.size) → h.get? S = some (lstObj acc c) → Vals out acc.toList → out.length = k →
      Zp h z TI TO i1 i2 l1 l2 k → h.IsList l1 us.toArray → h.IsList l2 vs.toArray →
      (∀ (more : List V) (H' : Hp) (h' : Heap) (acc' : Array Value) (c' : Nat), ZipH H (xs0.drop k) (ys0.drop k) more H' → Un fs [S, z, TO, i1, i2] H0 H' h0 h' → HOk P w H' h' → H' S = none → h'.get? S = some (lstObj acc' c') → Vals (out ++ more) acc'.toList → (out ++ more).length ≤ sizeLine → R (.ok (.ret res)) ⟨h', g, d, tk, os⟩) →
      codeAny (model P w) A (.builtin "list.extend.loop" ⟨[.ref S, .ref z, res], []⟩) R ⟨h, g, d, tk, os⟩ := by
  intro n
  have done : ∀ (k : Nat) (H : Hp) (h : Heap) (acc : Array Value) (c : Nat) (out : List V), us.length ≤ k ∨ vs.length ≤ k → k ≤ us.length → Un fs [S, z, TO, i1, i2] H0 H h0 h → HOk P w H h → (∀ b ∈ [S, z, TO, i1, i2], H b = none ∧ b < h.objs.size) → h.get? S = some (lstObj acc c) → Vals out acc.toList → out.length = k →
      Zp h z TI TO i1 i2 l1 l2 k → h.IsList l1 us.toArray → h.IsList l2 vs.toArray →
      (∀ (more : List V) (H' : Hp) (h' : Heap) (acc' : Array Value) (c' : Nat), ZipH H (xs0.drop k) (ys0.drop k) more H' → Un fs [S, z, TO, i1, i2] H0 H' h0 h' → HOk P w H' h' → H' S = none → h'.get? S = some (lstObj acc' c') → Vals (out ++ more) acc'.toList → (out ++ more).length ≤ sizeLine → R (.ok (.ret res)) ⟨h', g, d, tk, os⟩) →
      codeAny (model P w) A (.builtin "list.extend.loop" ⟨[.ref S, .ref z, res], []⟩) R ⟨h, g, d, tk, os⟩ := by
    intro k H h acc c out hk hku un hok hf hS1 ro ho Z q1 q2 hR
    refine codeAny_builtin F.entry_extend_loop ?_
    rw [Around.under_plainId F.plain_extend_loop _]
    show wpAny _ A.in1 (pyNext (.ref z) >>= _) _ _ _
    have l1' := ru.length
    have l2' := rv.length
    refine wpAny_bind (Zp.fin (s := ⟨h, g, d, tk, os⟩) (A := A.in1) hh D Z q1 q2 ?_ fun h' kp => ?_)
    · exact hk.imp (fun z => by simp; omega) fun z => by simp; omega
    · have kp2 : ∀ b u, b ∉ [S, z, TO, i1, i2] → h.get? b = some u → h'.get? b = some u := fun b u hb e => kp b u (fun m => hb (List.mem_cons_of_mem _ m)) e
      refine wpAny_pure (hR [] H h' acc c (.nil (hk.imp (fun z => List.drop_eq_nil_of_le (by omega)) fun z => List.drop_eq_nil_of_le (by omega))) (un.trans (un_turned0 kp2)) (hok_turned0 hok kp2 fun b hb => (hf b hb).1) (hf S (by simp)).1 (kp S _ (fun m => hS ?_) hS1) (by rw [List.append_nil]; exact ro) (by rw [List.append_nil]; omega))
      simp only [List.mem_cons, List.not_mem_nil, or_false] at m ⊢
      rcases m with m | m | m | m <;> simp [m]
  induction n with
  | zero =>
    intro k H h acc c out e un hok hf hS1 ro ho Z q1 q2 hR
    exact done k H h acc c out (.inl (by omega)) (by omega) un hok hf hS1 ro ho Z q1 q2 hR
  | succ n ih =>
    intro k H h acc c out e un hok hf hS1 ro ho Z q1 q2 hR
    by_cases hv : vs.length ≤ k
    · exact done k H h acc c out (.inr hv) (by omega) un hok hf hS1 ro ho Z q1 q2 hR
    · have l1' := ru.length
      have l2' := rv.length
      have hx : xs0[k]? = some xs0[k] := List.getElem?_eq_getElem (by omega)
      have hy : ys0[k]? = some ys0[k] := List.getElem?_eq_getElem (by omega)
      obtain ⟨u, hu, rx⟩ := ru.get hx
      obtain ⟨v, hv2, ry⟩ := rv.get hy
      refine codeAny_builtin F.entry_extend_loop ?_
      rw [Around.under_plainId F.plain_extend_loop _]
      show wpAny _ A.in1 (pyNext (.ref z) >>= _) _ _ _
      refine wpAny_bind (Zp.item (s := ⟨h, g, d, tk, os⟩) D Z q1 q2 (x := u) (y := v) (by simpa using hu) (by simpa using hv2) fun h' Z' hT hsz kp => ?_)
      have hT : IsPair h' h.objs.size u v := hT
      have hsz : h'.objs.size = h.objs.size + 1 := hsz
      have kp : ∀ b u, b ∉ [z, TO, i1, i2] → h.get? b = some u → h'.get? b = some u := kp
      have al : acc.size = k := by rw [← Array.length_toList, ← ro.length, ho]
      have hSn : S ∉ [z, TO, i1, i2] := fun m => hS (by
        simp only [List.mem_cons, List.not_mem_nil, or_false] at m ⊢
        rcases m with m | m | m | m <;> simp [m])
      have hS2 : h'.get? S = some (lstObj acc c) := kp S _ hSn hS1
      have fr : ∀ b ∈ [S, z, TO, i1, i2], b ≠ h.objs.size := fun b hb => Nat.ne_of_lt (hf b hb).2
      show wpAny _ A.in1 (updateSeq S (·.push (.ref h.objs.size)) >>= _) _ _ ⟨h', g, d, tk, os⟩
      refine wpAny_bind ?_
      refine wpAny_updateSeq hS2 rfl (wpAny_pure ⟨plainId_quiet F.plain_extend_loop _, ?_⟩) (by omega) (by show (acc.push _).size ≤ sizeLine + 1; rw [Array.size_push]; omega)
      have up : ∀ b o, b ≠ S → h'.get? b = some o → (h'.update S (Obj.mapSeq (·.push (.ref h.objs.size)))).get? b = some o := fun b o hb q => (Heap.get?_update_other _ _ (Ne.symm hb)).trans q
      have kp2 : ∀ b u, b ∉ [S, z, TO, i1, i2] → h.get? b = some u → (h'.update S (Obj.mapSeq (·.push (.ref h.objs.size)))).get? b = some u := fun b u hb q =>
        up b u (fun m => hb (by simp [m])) (kp b u (fun m => hb (List.mem_cons_of_mem _ m)) q)
      have nS : ∀ {b : Addr}, b ∈ [z, TI, TO, i1, i2, l1, l2] → b ≠ S := fun {b} hb m => hS (m ▸ hb)
      have hT3 := up _ _ (fr S (by simp)).symm hT
      have new : ObjOk P w (upd H h.objs.size (.frz { cls := .type "tuple", data := .seq #[u, v] } (.tup [xs0[k], ys0[k]]))) (h'.update S (Obj.mapSeq (·.push (.ref h.objs.size)))) h.objs.size (.frz { cls := .type "tuple", data := .seq #[u, v] } (.tup [xs0[k], ys0[k]])) :=
        ⟨hT3, by show 2 ≤ sizeLine; decide, [u, v], .cons rx (.cons ry .nil), ⟨_, hT3, rfl, _, rfl⟩⟩
      have lt3 : h.objs.size < (h'.update S (Obj.mapSeq (·.push (.ref h.objs.size)))).objs.size := Heap.lt_size hT3
      have hS3 := Heap.get?_update_self (Obj.mapSeq (·.push (Value.ref h.objs.size))) hS2 rfl
      refine ih (k + 1) (upd H h.objs.size (.frz { cls := .type "tuple", data := .seq #[u, v] } (.tup [xs0[k], ys0[k]]))) (h'.update S (Obj.mapSeq (·.push (.ref h.objs.size)))) (acc.push (.ref h.objs.size)) _ (out ++ [.ref h.objs.size]) (by omega) (un.trans (un_turned kp2 (Nat.le_refl _) (hok.fresh (Nat.le_refl _)))) (hok_turned hok kp2 (fun b hb => (hf b hb).1) (Nat.le_refl _) new)
        (fun b hb => ⟨by rw [upd_ne (fr b hb)]; exact (hf b hb).1, Nat.lt_trans (hf b hb).2 lt3⟩) hS3 (by rw [Array.toList_push]; exact ro.append (.cons rfl .nil)) (by rw [List.length_append, ho]; rfl) (Z'.keep (fun b u hb => up b u (nS hb)) (fun b u q => ?_))
        (q1.keep2 (fun u => kp2 l1 u hl)) (q2.keep2 (fun u => kp2 l2 u hl2)) fun more H' h'' acc' c' zh un' hok' n' g' r' l' => hR (.ref h.objs.size :: more) H' h'' acc' c' ?_ un' hok' n' g' (by simpa [List.append_assoc] using r') (by simpa [List.append_assoc] using l')
      · by_cases hb : b = S
        · exact ⟨_, by rw [hb]; exact hS3⟩
        · exact ⟨u, up b u hb q⟩
      · rw [List.drop_eq_getElem_cons (show k < xs0.length by omega), List.drop_eq_getElem_cons (show k < ys0.length by omega)]
        exact .cons _ rfl (hok.fresh (Nat.le_refl _)) zh
theorem zp_call {P : Program} {w : World} {fs : List Addr} {H : Hp} {A : Around} {E : Value → Shared → Prop} {s : Shared} {z TI TO i1 i2 l1 l2 : Addr} {us vs : List Value} {xs0 ys0 : List V} {Q : Value → Shared → Prop}
    (hh : A.handled = none) (D : ZipApart z TI TO i1 i2 l1 l2) (ru : Vals xs0 us) (rv : Vals ys0 vs) (hlen : us.length ≤ sizeLine) (hz : IsZip s.heap z TI TO .none) (Z : Zp s.heap z TI TO i1 i2 l1 l2 0) (q1 : s.heap.IsList l1 us.toArray) (q2 : s.heap.IsList l2 vs.toArray)
    (hok : HOk P w H s.heap) (hf : ∀ b ∈ [z, TO, i1, i2], H b = none ∧ b < s.heap.objs.size) (hTI : TI < s.heap.objs.size)
    (hQ : ∀ (out : List V) (H' : Hp) (h' : Heap) (acc : Array Value) (c : Nat), ZipH H xs0 ys0 out H' → Un fs [s.heap.objs.size, z, TO, i1, i2] H H' s.heap h' → HOk P w H' h' → H' s.heap.objs.size = none → h'.get? s.heap.objs.size = some (lstObj acc c) → Vals out acc.toList → out.length ≤ sizeLine → Q (.ref s.heap.objs.size) { s with heap := h' }) :
    wpAny (model P w) A (call (.type "list") [.ref z]) Q E s := by
  obtain ⟨h, g, d, tk, os⟩ := s
  have lt1 : l1 < h.objs.size := let ⟨_, e, _⟩ := q1; Heap.lt_size e
  have lt2 : l2 < h.objs.size := let ⟨_, e, _⟩ := q2; Heap.lt_size e
  have hS : ∀ b ∈ [z, TI, TO, i1, i2, l1, l2], b < h.objs.size := fun b hb => by
    simp only [List.mem_cons, List.not_mem_nil, or_false] at hb
    rcases hb with m | m | m | m | m | m | m <;> subst m
    · exact (hf _ (by simp)).2
    · exact hTI
    · exact (hf _ (by simp)).2
    · exact (hf _ (by simp)).2
    · exact (hf _ (by simp)).2
    · exact lt1
    · exact lt2
  have ne : ∀ b ∈ [z, TI, TO, i1, i2, l1, l2], b ≠ h.objs.size := fun b hb => Nat.ne_of_lt (hS b hb)
  refine callType_codes (Q₁ := fun obj s₁ => obj = .ref h.objs.size ∧ s₁ = ⟨h.push { cls := .type "list", data := .seq #[] }, g, d, tk, os⟩) F.called_list (F.typeCall_list_1 _) F.entry_list_init (code_list_new _ ⟨rfl, rfl⟩) fun obj s₁ h₁ => ?_
  obtain ⟨rfl, rfl⟩ := h₁
  have g1 : (h.push { cls := .type "list", data := .seq #[] }).get? h.objs.size = some { cls := .type "list", data := .seq #[] } := Heap.get?_push_size _ rfl
  have up : ∀ {h2 : Heap} (f : Obj → Obj), (∀ b o, b ≠ h.objs.size → h.get? b = some o → h2.get? b = some o) → ∀ b o, b ≠ h.objs.size → h.get? b = some o → (h2.update h.objs.size f).get? b = some o := fun f q b o hb e => (Heap.get?_update_other _ _ (Ne.symm hb)).trans (q b o hb e)
  have k1 : ∀ b o, b ≠ h.objs.size → h.get? b = some o → (h.push { cls := .type "list", data := .seq #[] }).get? b = some o := fun b o _ e => Heap.get?_push_of_some _ e
  refine ⟨⟨_, g1, rfl⟩, F.args_list_init_2 _ _, ?_⟩
  have keepZ : ∀ {h2 : Heap}, (∀ b o, b ≠ h.objs.size → h.get? b = some o → h2.get? b = some o) → Zp h2 z TI TO i1 i2 l1 l2 0 := fun {h2} q => by
    refine Z.keep (fun b u hb e => q b u (ne b hb) e) fun b u e => ⟨u, q b u (Nat.ne_of_lt (Heap.lt_size e)) e⟩
  have zt : ∀ {h2 : Heap}, (∀ b o, b ≠ h.objs.size → h.get? b = some o → h2.get? b = some o) → (Shared.TypeIs ⟨h2, g, d, tk, os⟩ (.ref z) "zip") := fun {h2} q => Zp.ty (s := ⟨h2, g, d, tk, os⟩) (keepZ q)
  show wpAny _ A.in1.in1 (Builtin.List.listItems (.ref h.objs.size) >>= fun old => Builtin.List.listUpdate (.ref h.objs.size) (fun _ => #[]) >>= fun _ => letGo old.toList.reverse >>= fun _ => Builtin.List.listExtendWith (.ref h.objs.size) (.ref z) .none) _ _ _
  refine wpAny_bind ?_
  unfold Builtin.List.listItems
  refine wpAny_bind (wpAny_seqItems g1 rfl (wpAny_pure ?_))
  refine wpAny_bind ?_
  show wpAny _ A.in1.in1 (updateSeq h.objs.size (fun _ => #[])) _ _ _
  refine wpAny_updateSeq g1 rfl ?_
  have g2 := Heap.get?_update_self (Obj.mapSeq (fun _ => (#[] : Array Value))) g1 rfl
  have k2 := up (Obj.mapSeq (fun _ => (#[] : Array Value))) k1
  refine wpAny_bind (wpAny_letGo ?_)
  unfold Builtin.List.listExtendWith
  refine wpAny_bind (wpAny_typeOf (zt k2) ?_)
  have n1 : Builtin.List.listSameRef (.ref h.objs.size) (.ref z) = false := by
    have := ne z (by simp)
    simp [Builtin.List.listSameRef, Ne.symm this]
  have n2 : (Value.type "zip" == Value.type "list" || Value.type "zip" == Value.type "tuple") = false := by decide
  rw [n1, Bool.false_or, n2, if_neg Bool.false_ne_true]
  refine wpAny_bind (wpAny_pyIter_zip (k2 z _ (ne z (by simp)) hz) ?_)
  refine wpAny_bind (wpAny_holding ?_)
  unfold Builtin.List.listLengthHint
  refine wpAny_bind (wpAny_specialOf (zt k2) zp_no_len ?_)
  show wpAny _ A.in1.in1 (specialOf (Value.ref z) (Str.ofString "__length_hint__") >>= _) _ _ _
  refine wpAny_bind (wpAny_specialOf (zt k2) zp_no_hint (wpAny_pure ?_))
  show wpAny _ A.in1.in1 (rule "list.extend.makes-room" >>= fun _ => Builtin.List.listTouch (.ref h.objs.size) >>= fun _ => again (.builtin "list.extend.loop" ⟨[.ref h.objs.size, .ref z, .none], []⟩)) _ _ _
  refine wpAny_bind (wpAny_rule (wpAny_bind ?_))
  show wpAny _ A.in1.in1 (updateSeq h.objs.size (·.push .none) >>= fun _ => updateSeq h.objs.size (·.pop)) _ _ _
  refine wpAny_bind (wpAny_updateSeq g2 rfl ?_)
  have g3 := Heap.get?_update_self (Obj.mapSeq (·.push Value.none)) g2 rfl
  refine wpAny_updateSeq (hz := by seq_fits) g3 rfl (wpAny_pure ⟨plainId_quiet F.plain_extend_loop _, ?_⟩)
  have g4 := Heap.get?_update_self (Obj.mapSeq (·.pop)) g3 rfl
  have k4 := up (Obj.mapSeq (·.pop)) (up (Obj.mapSeq (·.push Value.none)) k2)
  have k5 : ∀ b o, b ∉ [h.objs.size, z, TO, i1, i2] → h.get? b = some o → _ := fun b o hb e => k4 b o (fun m => hb (by simp [m])) e
  have free : ∀ b ∈ [h.objs.size, z, TO, i1, i2], H b = none := fun b hb => by
    rcases List.mem_cons.mp hb with m | m
    · rw [m]; exact hok.fresh (Nat.le_refl _)
    · exact (hf b m).1
  refine zp_drain (fs := fs) (H0 := H) (h0 := h) (A := A.in1) (us := us) (vs := vs) (xs0 := xs0) (ys0 := ys0) (l1 := l1) (l2 := l2) hh D (fun m => ne _ m rfl) ?_ ?_ ru rv hlen us.length 0 H _ _ _ [] (by omega) (un_turned0 k5) (hok_turned0 hok k5 free) (fun b hb => ⟨free b hb, ?_⟩) g4 .nil rfl (keepZ k4)
    (q1.keep2 fun u => k4 l1 u (ne l1 (by simp))) (q2.keep2 fun u => k4 l2 u (ne l2 (by simp))) fun more H' h' acc' c' zh un' hok' n' g' r' l' => ⟨rfl, hQ more H' h' acc' c' zh un' hok' n' g' r' l'⟩
  · simp only [List.mem_cons, List.not_mem_nil, or_false, not_or]
    exact ⟨ne l1 (by simp), D.l1z, D.l1TO, D.l1i1, D.l1i2⟩
  · simp only [List.mem_cons, List.not_mem_nil, or_false, not_or]
    exact ⟨ne l2 (by simp), D.l2z, D.l2TO, D.l2i1, D.l2i2⟩
  · have l4 := Heap.lt_size g4
    rcases List.mem_cons.mp hb with m | m
    · rw [m]; exact l4
    · exact Nat.lt_trans (hf b m).2 l4
/-- list(zip(e, e2)) of two lists -/
def tListZip (K : PySem.W.Frag) (ta : TA) : TE := fun σ H Q => ta σ H fun vs H1 => ∃ a b xs ys, vs = [.ref a, .ref b] ∧ SqL K H1 a xs ∧ SqL K H1 b ys ∧ ∀ out H2 p, ZipH H1 xs ys out H2 → H2 p = none → Q (.ref p) (upd H2 p (.lst out))
theorem pe_listZip {X : Cx} {e e2 : Expr} {ta : TA} {p p2 q pos : Pos} (hg : Gl X "list") (hm : X.mg "list" = none) (hg2 : Gl X "zip") (hm2 : X.mg "zip" = none) (ha : PA X [e, e2] ta) (hc : X.calm = true := by rfl)
    (hs : starEach [e, e2] X.env = (false, eval e X.env) :: starEach [e2] X.env := by rfl) (hpl : (backTo q (starEach [e2] X.env)).any (·.1) = false := by rfl) : PE X (.Call (.Name "list" p) [.Call (.Name "zip" p2) [e, e2] [] q] [] pos) (tListZip X.K ta) := by
  refine ⟨fun pins s σ H Q I h => ?_⟩
  refine Call_ (ld_blt I hg hm PyProof.Rows.boot_list ?_)
  refine PyProof.Rows.callWith_type1 (PyProof.Rows.args_cons ?_ rfl) rfl rfl
  refine Call_ (ld_blt I hg2 hm2 PyProof.Rows.boot_zip (PyProof.Rows.callWith_type1 (thn (ha.run q pins s σ H _ I h) fun us s1 ⟨vs, H1, I1, r1, q1⟩ => ?_) hs hpl))
  obtain ⟨a, b, xs, ys, rfl, hqx, hqy, q1⟩ := q1
  cases r1 with
  | cons r rr =>
    cases rr with
    | cons r' rr =>
      cases rr; cases r; cases r'
      obtain ⟨its, rv, p1, hn1⟩ := I1.list hqx
      obtain ⟨its2, rv2, p2', hn2⟩ := I1.list hqy
      refine call_zip_2 p1.isList p2'.isList fun h' hz hTI hTO h1 h2 hsz hk => PyProof.Rows.args_nil ?_
      have I2 : Inv X pins σ H1 { s1 with heap := h' } := I1.kept (t' := s1.toks) hk
      have fr : ∀ c, s1.heap.objs.size ≤ c → FpOk X pins H1 c := fun c hle => I1.fpOk hle (I1.hok.fresh hle)
      have D := PySem.W.ktu_apart s1.heap.objs.size a b p1.lt p2'.lt
      have mem4 : ∀ c ∈ [s1.heap.objs.size + 4, s1.heap.objs.size + 3, s1.heap.objs.size, s1.heap.objs.size + 1], s1.heap.objs.size ≤ c ∧ c < s1.heap.objs.size + 5 := fun c hc => by
        simp only [List.mem_cons, List.not_mem_nil, or_false] at hc
        rcases hc with m | m | m | m <;> subst m <;> exact ⟨by omega, by omega⟩
      refine zp_call (P := X.prog) (w := X.w) (fs := frs X.stack) (H := H1) (us := its) (vs := its2) (xs0 := xs) (ys0 := ys) (I1.ok.hd hc) D rv rv2 (by rw [← rv.length]; exact hn1) hz ⟨.inl ⟨hz, _, _, hTO⟩, hTI, h1, h2⟩ (p1.isList.keep2 fun u => hk a u) (p2'.isList.keep2 fun u => hk b u) I2.hok
        (fun c hcm => ⟨(fr c (mem4 c hcm).1).1, by show c < h'.objs.size; rw [hsz]; exact (mem4 c hcm).2⟩) (by show _ < h'.objs.size; rw [hsz]; omega) fun out H' h'' acc c zh un hok hn hg' r hl => ?_
      refine ⟨.ref _, upd H' _ (.lst out), I2.drained (S := h'.objs.size) (ex := [h'.objs.size, s1.heap.objs.size + 4, s1.heap.objs.size + 3, s1.heap.objs.size, s1.heap.objs.size + 1]) (Nat.le_refl _) hl hg' r (fun c hcm => ?_) rfl I2.bare un hok hn, rfl, q1 out H' _ zh hn⟩
      have z := fr c (by
        rcases List.mem_cons.mp hcm with m | m
        · rw [m, hsz]; omega
        · exact (mem4 c m).1)
      exact ⟨z.2.2.2.1, z.2.1, z.2.2.2.2.1, z.2.2.2.2.2⟩
theorem lzK {X : Cx} {K : PySem.W.Frag} {e : Expr} {ta : TA} (h : X.K = K) (x : PE X e (tListZip X.K ta)) : PE X e (tListZip K ta) := h ▸ x
section
variable {w : Wx} {K : PySem.W.Frag} {te : TE} {f : DTE}
theorem zipH_dv {H H2 : Hp} {xs ys out : List V} (z : ZipH H xs ys out H2) : ∀ {L : Hp} {ds es : List PyData}, Same L H → DVs L xs ds → DVs L ys es → ∃ L2, Ext none L H L2 H2 ∧ Same L2 H2 ∧ DVs L2 out (zipDs ds es) := by
  induction z with
  | nil h =>
    intro L ds es s k1 k2
    have e : zipDs ds es = [] := by
      rcases h with h | h
      · subst h; cases k1; exact List.zipWith_nil_left
      · subst h; cases k2; exact List.zipWith_nil_right
    exact ⟨L, Ext.refl none L _, s, by rw [e]; exact .nil⟩
  | @cons H H' x y xs ys out T ob od n _ ih =>
    intro L ds es s k1 k2
    cases k1 with
    | @cons _ d _ ds a1 a2 =>
      cases k2 with
      | @cons _ e _ es b1 b2 =>
        have t := same_upd (o := .frz ob (.tup [x, y])) (s.free n)
        obtain ⟨L2, e2, s2, q⟩ := ih (same_both s) (a2.to t) (b2.to t)
        refine ⟨L2, (Ext.new s n).trans e2, s2, .cons ?_ q⟩
        exact DV.to (.tup ⟨ob, od, upd_same⟩ (.cons (a1.to t) (.cons (b1.to t) .nil))) e2.ll
def dListZip (f : DTA) (ε : Env) (Q : R → Env → Prop) : Prop := f ε fun rs ε1 => match rs with
  | [x, y] => match x.dat, y.dat with
    | some (.list ds), some (.list es) => Q (.nw (zipDs ds es)) ε1
    | _, _ => False
  | _ => False
theorem se_listZip {n : Nat} {t : TA} {f : DTA} (hf : SA w n t f) : SE w (tListZip K t) (dListZip f) := by
  constructor
  · intro ε A B h q
    refine hf.mono _ _ _ (fun r ε1 q => ?_) q
    split at q
    · split at q
      · exact h _ _ q
      · exact q.elim
    · exact q.elim
  · intro Z O σ ε L H Q X q
    refine hf.run Z O σ ε L H _ X (hf.mono _ _ _ (fun r ε1 q => ?_) q)
    intro vs L1 H1 X1 e1 r1 hl np
    split at q
    · rename_i x y
      split at q
      · rename_i ds es ex ey
        cases r1 with
        | cons r1 r2 =>
          cases r2 with
          | cons r2 r3 =>
            cases r3
            obtain ⟨a, xs, rfl, k1, k2⟩ := (r1.vl ex).lst X1.lh
            obtain ⟨b, ys, rfl, j1, j2⟩ := (r2.vl ey).lst X1.lh
            refine ⟨a, b, xs, ys, rfl, SqL.of k1, SqL.of j1, fun out H2 p z n => ?_⟩
            obtain ⟨L2, e2, s2, dv⟩ := zipH_dv z X1.lh k2 j2
            have X2 := X1.step e2 s2
            have ep : Ext none L2 H2 L2 (upd H2 p (.lst out)) := Ext.own n
            exact q _ L2 _ (X2.step ep (same_own X2.lh (X2.lh.free n))) ((e1.trans e2.any).trans ep.any) (VR.back (VR0.vr (r := .nw (zipDs ds es)) ⟨p, _, rfl, n, X2.lh.free n, upd_same, dv⟩ X2) (e1.trans e2.any))
      · exact q.elim
    · exact q.elim
end
end Lp

namespace Lp
open PySem PySem.Spec PyProof.Rows L2
local macro_rules | `(tactic| rfl') => `(tactic| try dsimp only [dVar_, gv_sh, gv_ow, gv_bx, gv_raw, gv_st, dC, dRaw, dOp, dUn, dTest, dTruth, dAnd, dOr, dNot, dYes, dIf, dAndV, dOrV, dNotV, dNotT, dChain, dNil, dCons, dTup, dLst, dats, dCB, dNoP, dPart, dSl, dNext, dBreak, dCont, dNever, dDrop, dRet, dRetN, dIfS, dSetG, dPar, dPar3, dAppend, dAppPop, dSetIx, dExt, dAug, dSet0, dSAdd, dSNotIn, dIter_, gi_l, gi_t, gi_b, dRng1, dRng2, dName, dGNil, dGCons, dGTup, dAsg, dFor, dWhile, dCall, dCallR, dArgs_, ga_f, ga_t, argsOf, dLc, wipeE, dListRg, dIndex, dSortSet, dSortSc, dEnum, dEnA, dZip, dIsi, dIsi2, isaT, φI, φB, φC, φNeg, add_i, add_l, add_t, mul_i, mul_l, φIx, sl_l, sl_t, eq_i, eq_s, eq_l, eq_t, eq_b, eq_n, φIsN, isN_n, isN_b, isN_i, isN_s, isN_l, isN_t, φLen, φList, φTuple, φAbs, φInt, φMax, φIsB, φIsNB, its_l, its_t, rd_sh, rd_nw, rd_br, rp_sh, rp_nw, rp_br, rp_bx, rp_raw, rp_sr, rr_sh, rr_nw, rr_br, ra_sh, ra_br, ra_bx, ra_raw, va_sh, va_nt, va_nf, va_raw, hb_n, hb_sh, hb_bx, hb_raw, hb_br, sh_n, sh_c, tr_n, tr_b, tr_i, tr_l, tr_t, ty_n, ty_b, ty_i, ty_s, ty_l, ty_t, if_ff, if_tt, Env.set, List.getElem?_cons_succ, List.getElem?_cons_zero, List.set_cons_succ, List.set_cons_zero, List.reverse_cons, List.reverse_nil, List.nil_append, List.cons_append, Option.bind_some, ite_true, ite_false])
/-- who has no wish points at themselves -/
def fillF (os : List (Option Int)) : List Int := (List.range os.length).map fun i : Nat => (gO os (i : Int)).getD (i : Int)
structure WSt (os : List (Option Int)) : Prop where
  lo : LowO os.length os
  le : os.length ≤ 1000
  ge : 1 ≤ os.length
abbrev PerO (os : List (Option Int)) (x : Int) : Prop := 0 ≤ x ∧ x < (os.length : Int)
/-- a cycle of wished pointers -/
def CycW (os : List (Option Int)) (x : Int) (c : Nat) : Prop := Cyc (fillF os) x c ∧ gO os x ≠ none
/-- a wish with no obstacle -/
structure WOk (a : List Int) (os : List (Option Int)) : Prop where
  ways : ∀ x z, Per a x → gO os x = some z → ∃ m, 0 < m ∧ z = itr a x m
  one : ∀ x y c c', Per a x → Per a y → CycW os x c → CycW os y c' → (∃ s t, itr a x s = itr a y t) → y ∈ itrs (fillF os) x c
  ord : ∀ x c d, Per a x → CycW os x c → Cyc a x d → (itrs (fillF os) x c).Sublist (itrs a x d)
section
variable {a : List Int} {os : List (Option Int)} (h : Stt a) (w : WSt os) (hl : os.length = a.length) (hw : ∀ x z, Per a x → gO os x = some z → ∃ m, 0 < m ∧ z = itr a x m)
include h w hl hw
end
def Meets' (b : List Int) (os : List (Option Int)) : Prop := ∀ x z, PerO os x → gO os x = some z → gt b x = z
end Lp

namespace Lp
open PySem PySem.Spec PyProof.Rows L2
local macro_rules | `(tactic| rfl') => `(tactic| try dsimp only [dVar_, gv_sh, gv_ow, gv_bx, gv_raw, gv_st, dC, dRaw, dOp, dUn, dTest, dTruth, dAnd, dOr, dNot, dYes, dIf, dAndV, dOrV, dNotV, dNotT, dChain, dNil, dCons, dTup, dLst, dats, dCB, dNoP, dPart, dSl, dNext, dBreak, dCont, dNever, dDrop, dRet, dRetN, dIfS, dSetG, dPar, dPar3, dAppend, dAppPop, dSetIx, dExt, dAug, dSet0, dSAdd, dSNotIn, dIter_, gi_l, gi_t, gi_b, dRng1, dRng2, dName, dGNil, dGCons, dGTup, dAsg, dFor, dWhile, dCall, dCallR, dArgs_, ga_f, ga_t, argsOf, dLc, wipeE, dListRg, dIndex, dSortSet, dSortSc, dEnum, dEnA, dZip, dIsi, dIsi2, isaT, φI, φB, φC, φNeg, add_i, add_l, add_t, mul_i, mul_l, φIx, sl_l, sl_t, eq_i, eq_s, eq_l, eq_t, eq_b, eq_n, φIsN, isN_n, isN_b, isN_i, isN_s, isN_l, isN_t, φLen, φList, φTuple, φAbs, φInt, φMax, φIsB, φIsNB, its_l, its_t, rd_sh, rd_nw, rd_br, rp_sh, rp_nw, rp_br, rp_bx, rp_raw, rp_sr, rr_sh, rr_nw, rr_br, ra_sh, ra_br, ra_bx, ra_raw, va_sh, va_nt, va_nf, va_raw, hb_n, hb_sh, hb_bx, hb_raw, hb_br, sh_n, sh_c, tr_n, tr_b, tr_i, tr_l, tr_t, ty_n, ty_b, ty_i, ty_s, ty_l, ty_t, if_ff, if_tt, Env.set, List.getElem?_cons_succ, List.getElem?_cons_zero, List.set_cons_succ, List.set_cons_zero, List.reverse_cons, List.reverse_nil, List.nil_append, List.cons_append, Option.bind_some, ite_true, ite_false])
/-- whom the others of a ring may point at -/
def HubIs (os : List (Option Int)) (R : List Int) (h : Int) : Prop := h ∈ R ∧ ((∃ c, CycW os h c) ∨ (gO os h = none ∧ ¬ ∃ x c, x ∈ R ∧ CycW os x c))
structure GrantOk (a : List Int) (os : List (Option Int)) (g : List Int) : Prop where
  len : g.length = a.length
  st : Stt g
  wish : ∀ x z, Per a x → gO os x = some z → gt g x = z
  off : ∀ x, Per a x → gO os x = none → x ∉ ringF a x → gt g x = gt a x
  on : ∀ r, Per a r → ∃ h, (HubIs os (ringF a r) h ∨ ∀ x ∈ ringF a r, gO os x ≠ none) ∧ ∀ x ∈ ringF a r, gO os x = none → gt g x = h
section
variable {a : List Int} {os : List (Option Int)} {g : List Int} (h : Stt a) (w : WSt os) (hl : os.length = a.length) (f : WOk a os) (G : GrantOk a os g)
include h w hl f G
end
def setO (os : List (Option Int)) (x t : Int) : List (Option Int) := os.set x.toNat (some t)
/-- ps: whom x points at in the futures that meet os -/
def PF (a : List Int) (os : List (Option Int)) (x : Int) (ps : List Int) : Prop := ps.Pairwise (· < ·) ∧ ∀ t, t ∈ ps ↔ match gO os x with
  | some z => t = z
  | none => t ∈ routeF a (gt a x) ∧ WOk a (setO os x t)
theorem PF.uniq {a : List Int} {os : List (Option Int)} {x : Int} {ps qs : List Int} (p : PF a os x ps) (q : PF a os x qs) : ps = qs := by
  have key : ∀ (ps qs : List Int), ps.Pairwise (· < ·) → qs.Pairwise (· < ·) → (∀ t, t ∈ ps ↔ t ∈ qs) → ps = qs := by
    intro ps
    induction ps with
    | nil =>
      intro qs _ _ hm
      cases qs with
      | nil => rfl
      | cons y qs => exact nomatch (hm y).mpr List.mem_cons_self
    | cons x ps ih =>
      intro qs hp hq hm
      cases qs with
      | nil => exact nomatch (hm x).mp List.mem_cons_self
      | cons y qs =>
        have p2 := List.pairwise_cons.mp hp
        have q2 := List.pairwise_cons.mp hq
        have e : x = y := by
          rcases List.mem_cons.mp ((hm x).mp List.mem_cons_self) with e | e
          · exact e
          · rcases List.mem_cons.mp ((hm y).mpr List.mem_cons_self) with e2 | e2
            · exact e2.symm
            · have := q2.1 x e
              have := p2.1 y e2
              omega
        subst e
        congr 1
        refine ih qs p2.2 q2.2 fun t => ?_
        constructor
        · intro ht
          rcases List.mem_cons.mp ((hm t).mp (List.mem_cons_of_mem _ ht)) with e | e
          · subst e; exact absurd (p2.1 t ht) (by omega)
          · exact e
        · intro ht
          rcases List.mem_cons.mp ((hm t).mpr (List.mem_cons_of_mem _ ht)) with e | e
          · subst e; exact absurd (q2.1 t ht) (by omega)
          · exact e
  exact key ps qs p.1 q.1 fun t => (p.2 t).trans (q.2 t).symm
end Lp

namespace Lp
open PySem PySem.Spec PyProof.Rows L2
local macro_rules | `(tactic| rfl') => `(tactic| try dsimp only [dVar_, gv_sh, gv_ow, gv_bx, gv_raw, gv_exn, gv_st, dC, dRaw, dOp, dUn, dTest, dTruth, dAnd, dOr, dNot, dYes, dIf, dAndV, dOrV, dNotV, dNotT, dChain, dNil, dCons, dTup, dLst, dats, dCB, dNoP, dPart, dSl, dNext, dBreak, dCont, dNever, dDrop, dRet, dRetN, dIfS, dSetG, dPar, dPar3, dAppend, dAppPop, dSetIx, dExt, dAug, dSet0, dSAdd, dSNotIn, dIter_, gi_l, gi_t, gi_b, dRng1, dRng2, dName, dGNil, dGCons, dGTup, dAsg, dFor, dWhile, dCall, dCallR, dArgs_, ga_f, ga_t, argsOf, dLc, wipeE, dListRg, dIndex, dSortSet, dSortSc, dEnum, dEnA, dZip, dIsi, dIsi2, isaT, φI, φB, φC, φNeg, add_i, add_l, add_t, mul_i, mul_l, φIx, sl_l, sl_t, eq_i, eq_s, eq_l, eq_t, eq_b, eq_n, φIsN, isN_n, isN_b, isN_i, isN_s, isN_l, isN_t, φLen, φList, φTuple, φAbs, φInt, φMax, φIsB, φIsNB, its_l, its_t, rd_sh, rd_nw, rd_br, rp_sh, rp_nw, rp_br, rp_bx, rp_raw, rp_sr, rr_sh, rr_nw, rr_br, ra_sh, ra_br, ra_bx, ra_raw, va_sh, va_nt, va_nf, va_raw, hb_n, hb_sh, hb_bx, hb_raw, hb_br, sh_n, sh_c, tr_n, tr_b, tr_i, tr_l, tr_t, ty_n, ty_b, ty_i, ty_s, ty_l, ty_t, if_ff, if_tt, Env.set, List.getElem?_cons_succ, List.getElem?_cons_zero, List.set_cons_succ, List.set_cons_zero, List.reverse_cons, List.reverse_nil, List.nil_append, List.cons_append, Option.bind_some, ite_true, ite_false])
end Lp

namespace Lp
open PySem PySem.Spec PyProof.Rows L2
local macro_rules | `(tactic| rfl') => `(tactic| try dsimp only [dVar_, gv_sh, gv_ow, gv_bx, gv_raw, gv_st, dC, dRaw, dOp, dUn, dTest, dTruth, dAnd, dOr, dNot, dYes, dIf, dAndV, dOrV, dNotV, dNotT, dChain, dNil, dCons, dTup, dLst, dats, dCB, dNoP, dPart, dSl, dNext, dBreak, dCont, dNever, dDrop, dRet, dRetN, dIfS, dSetG, dPar, dPar3, dAppend, dAppPop, dSetIx, dExt, dAug, dSet0, dSAdd, dSNotIn, dIter_, gi_l, gi_t, gi_b, dRng1, dRng2, dName, dGNil, dGCons, dGTup, dAsg, dFor, dWhile, dCall, dCallR, dArgs_, ga_f, ga_t, argsOf, dLc, wipeE, dListRg, dIndex, dSortSet, dSortSc, dEnum, dEnA, dZip, dIsi, dIsi2, isaT, φI, φB, φC, φNeg, add_i, add_l, add_t, mul_i, mul_l, φIx, sl_l, sl_t, eq_i, eq_s, eq_l, eq_t, eq_b, eq_n, φIsN, isN_n, isN_b, isN_i, isN_s, isN_l, isN_t, φLen, φList, φTuple, φAbs, φInt, φMax, φIsB, φIsNB, its_l, its_t, rd_sh, rd_nw, rd_br, rp_sh, rp_nw, rp_br, rp_bx, rp_raw, rp_sr, rr_sh, rr_nw, rr_br, ra_sh, ra_br, ra_bx, ra_raw, va_sh, va_nt, va_nf, va_raw, hb_n, hb_sh, hb_bx, hb_raw, hb_br, sh_n, sh_c, tr_n, tr_b, tr_i, tr_l, tr_t, ty_n, ty_b, ty_i, ty_s, ty_l, ty_t, if_ff, if_tt, Env.set, List.getElem?_cons_succ, List.getElem?_cons_zero, List.set_cons_succ, List.set_cons_zero, List.reverse_cons, List.reverse_nil, List.nil_append, List.cons_append, Option.bind_some, ite_true, ite_false])
section
variable {a : List Int} {os : List (Option Int)} (h : Stt a) (w : WSt os) (hl : os.length = a.length) (f : WOk a os)
include h w hl f
end
end Lp

namespace Lp
open PySem PySem.Spec PyProof.Rows L2
local macro_rules | `(tactic| rfl') => `(tactic| try dsimp only [dVar_, gv_sh, gv_ow, gv_bx, gv_raw, gv_st, dC, dRaw, dOp, dUn, dTest, dTruth, dAnd, dOr, dNot, dYes, dIf, dAndV, dOrV, dNotV, dNotT, dChain, dNil, dCons, dTup, dLst, dats, dCB, dNoP, dPart, dSl, dNext, dBreak, dCont, dNever, dDrop, dRet, dRetN, dIfS, dSetG, dPar, dPar3, dAppend, dAppPop, dSetIx, dExt, dAug, dSet0, dSAdd, dSNotIn, dIter_, gi_l, gi_t, gi_b, dRng1, dRng2, dName, dGNil, dGCons, dGTup, dAsg, dFor, dWhile, dCall, dCallR, dArgs_, ga_f, ga_t, argsOf, dLc, wipeE, dListRg, dIndex, dSortSet, dSortSc, dEnum, dEnA, dZip, dIsi, dIsi2, isaT, φI, φB, φC, φNeg, add_i, add_l, add_t, mul_i, mul_l, φIx, sl_l, sl_t, eq_i, eq_s, eq_l, eq_t, eq_b, eq_n, φIsN, isN_n, isN_b, isN_i, isN_s, isN_l, isN_t, φLen, φList, φTuple, φAbs, φInt, φMax, φIsB, φIsNB, its_l, its_t, rd_sh, rd_nw, rd_br, rp_sh, rp_nw, rp_br, rp_bx, rp_raw, rp_sr, rr_sh, rr_nw, rr_br, ra_sh, ra_br, ra_bx, ra_raw, va_sh, va_nt, va_nf, va_raw, hb_n, hb_sh, hb_bx, hb_raw, hb_br, sh_n, sh_c, tr_n, tr_b, tr_i, tr_l, tr_t, ty_n, ty_b, ty_i, ty_s, ty_l, ty_t, if_ff, if_tt, Env.set, List.getElem?_cons_succ, List.getElem?_cons_zero, List.set_cons_succ, List.set_cons_zero, List.reverse_cons, List.reverse_nil, List.nil_append, List.cons_append, Option.bind_some, ite_true, ite_false])
end Lp

namespace Lp
open PySem PySem.Spec PyProof.Rows L2
local macro_rules | `(tactic| rfl') => `(tactic| try dsimp only [dVar_, gv_sh, gv_ow, gv_bx, gv_raw, gv_st, dC, dRaw, dOp, dUn, dTest, dTruth, dAnd, dOr, dNot, dYes, dIf, dAndV, dOrV, dNotV, dNotT, dChain, dNil, dCons, dTup, dLst, dats, dCB, dNoP, dPart, dSl, dNext, dBreak, dCont, dNever, dDrop, dRet, dRetN, dIfS, dSetG, dPar, dPar3, dAppend, dAppPop, dSetIx, dExt, dAug, dSet0, dSAdd, dSNotIn, dIter_, gi_l, gi_t, gi_b, dRng1, dRng2, dName, dGNil, dGCons, dGTup, dAsg, dFor, dWhile, dCall, dCallR, dArgs_, ga_f, ga_t, argsOf, dLc, wipeE, dListRg, dIndex, dSortSet, dSortSc, dEnum, dEnA, dZip, dIsi, dIsi2, isaT, φI, φB, φC, φNeg, add_i, add_l, add_t, mul_i, mul_l, φIx, sl_l, sl_t, eq_i, eq_s, eq_l, eq_t, eq_b, eq_n, φIsN, isN_n, isN_b, isN_i, isN_s, isN_l, isN_t, φLen, φList, φTuple, φAbs, φInt, φMax, φIsB, φIsNB, its_l, its_t, rd_sh, rd_nw, rd_br, rp_sh, rp_nw, rp_br, rp_bx, rp_raw, rp_sr, rr_sh, rr_nw, rr_br, ra_sh, ra_br, ra_bx, ra_raw, va_sh, va_nt, va_nf, va_raw, hb_n, hb_sh, hb_bx, hb_raw, hb_br, sh_n, sh_c, tr_n, tr_b, tr_i, tr_l, tr_t, ty_n, ty_b, ty_i, ty_s, ty_l, ty_t, if_ff, if_tt, Env.set, List.getElem?_cons_succ, List.getElem?_cons_zero, List.set_cons_succ, List.set_cons_zero, List.reverse_cons, List.reverse_nil, List.nil_append, List.cons_append, Option.bind_some, ite_true, ite_false])
section
variable {a b : List Int} {os : List (Option Int)} (h : Stt a) (hb : Stt b) (w : WSt os) (hl : os.length = a.length) (hlb : b.length = a.length) (f : Lead a b) (m : Meets' b os)
include h hb w hl hlb f m
end
/-- _law_looked: _law_net, _law_who -/
def b_law_looked : DTS := (dRet (dOp φAdd (dOp φAdd (dSl φSl (dVar 0) dNoP (dPart (dVar 1))) (dTup (dCons (dOp φIx (dVar 0) (dOp φIx (dVar 0) (dVar 1))) dNil))) (dSl φSl (dVar 0) (dPart (dOp φAdd (dVar 1) (dC (.int 1)))) dNoP)))
abbrev k_law_looked : Nat := 0
def p_law_looked : DSp := fun args c Q => ∃ (ns : List Int) (x : Int), args = [.sh (.tuple (dI ns)), .sh (.int x)] ∧ Stt ns ∧ Per ns x ∧ Q (.sh (.tuple (dI (call1 ns x)))) c
theorem mon_law_looked : MonF p_law_looked := fun args c A B h ⟨ns, x, ea, h1, h2, q⟩ => ⟨ns, x, ea, h1, h2, h _ _ q⟩
theorem m_law_looked : ∀ args c Q, p_law_looked args c Q → defF k_law_looked b_law_looked args c Q := by
  rintro _ c Q ⟨ns, x, rfl, h1, h2, q⟩
  show b_law_looked _ ⟨[.sh (.tuple (dI ns)), .sh (.int x)], c⟩
  unfold b_law_looked
  have pg := h1.gt h2
  have hle := h1.le
  rfl'
  refine ⟨_, atI_dI h2.1 h2.2, ?_⟩
  refine ⟨_, atI_dI pg.1 pg.2, ?_⟩
  rfl'
  have x0 := h2.1; have x1 := h2.2
  rw [cutD_to _ _ x0, cutD_from _ _ (by omega)]
  have e1 : (dI ns).take x.toNat ++ [PyData.int (gt ns (gt ns x))] ++ (dI ns).drop (x + 1).toNat = dI (call1 ns x) := by
    unfold call1
    rw [List.set_eq_take_append_cons_drop, if_pos (by omega)]
    show (ns.map PyData.int).take _ ++ [PyData.int _] ++ (ns.map PyData.int).drop _ = (_ ++ _ :: _).map PyData.int
    rw [List.map_append, List.map_cons, List.map_take, List.map_drop, List.append_assoc, show (x + 1).toNat = x.toNat + 1 by omega]
    rfl
  have e2 : ((dI ns).take x.toNat).length ≤ 1000 := by rw [List.length_take, dI_len]; omega
  have e3 : ((dI ns).drop (x + 1).toNat).length ≤ 1000 := by rw [List.length_drop, dI_len]; omega
  rw [e1]
  refine ⟨show _ ≤ 16777216 by rw [List.length_singleton]; omega, show _ ≤ 16777216 by rw [List.length_append, List.length_singleton]; omega, q⟩
end Lp

namespace Lp
open PySem PySem.Spec PyProof.Rows L2
local macro_rules | `(tactic| rfl') => `(tactic| try dsimp only [dVar_, gv_sh, gv_ow, gv_bx, gv_raw, gv_exn, gv_st, dC, dRaw, dOp, dUn, dTest, dTruth, dAnd, dOr, dNot, dYes, dIf, dAndV, dOrV, dNotV, dNotT, dChain, dNil, dCons, dTup, dLst, dats, dCB, dNoP, dPart, dSl, dNext, dBreak, dCont, dNever, dDrop, dRet, dRetN, dIfS, dSetG, dPar, dPar3, dAppend, dAppPop, dSetIx, dExt, dAug, dSet0, dSAdd, dSNotIn, dIter_, gi_l, gi_t, gi_b, dRng1, dRng2, dName, dGNil, dGCons, dGTup, dAsg, dFor, dWhile, dCall, dCallR, dArgs_, ga_f, ga_t, argsOf, dLc, wipeE, dListRg, dIndex, dSortSet, dSortSc, dEnum, dEnA, dZip, dIsi, dIsi2, isaT, φI, φB, φC, φNeg, add_i, add_l, add_t, mul_i, mul_l, φIx, sl_l, sl_t, eq_i, eq_s, eq_l, eq_t, eq_b, eq_n, φIsN, isN_n, isN_b, isN_i, isN_s, isN_l, isN_t, φLen, φList, φTuple, φAbs, φInt, φMax, φIsB, φIsNB, its_l, its_t, rd_sh, rd_nw, rd_br, rp_sh, rp_nw, rp_br, rp_bx, rp_raw, rp_sr, rr_sh, rr_nw, rr_br, ra_sh, ra_br, ra_bx, ra_raw, va_sh, va_nt, va_nf, va_raw, hb_n, hb_sh, hb_bx, hb_raw, hb_br, sh_n, sh_c, tr_n, tr_b, tr_i, tr_l, tr_t, ty_n, ty_b, ty_i, ty_s, ty_l, ty_t, if_ff, if_tt, Env.set, List.getElem?_cons_succ, List.getElem?_cons_zero, List.set_cons_succ, List.set_cons_zero, List.reverse_cons, List.reverse_nil, List.nil_append, List.cons_append, Option.bind_some, ite_true, ite_false, dCallX, dArgsX_, gx_s, dRaise, dIsX, dAttr, dIsNE, dListZip, dST0, dSTAdd, dSTIn, dDc, gv_sto, dPub, gv_dco, gv_dsh, dDIn, dDGet, dSortD, dDisp1, dDNew, dDPut, va_dt, va_df, va_ds, rr_dn, rr_db, rr_ds, rw_dn, rw_db, rw_ds])
theorem lcD_cong {γ : DTG} {c : DTT} {f : DTE} {vs : List Nat} {s : List SV} {Q : R → Env → Prop} {ds es acc : List PyData} {n : Nat} (e : ds = es) (q : lcD γ c f vs s Q es acc n) : lcD γ c f vs s Q ds acc n := e ▸ q
theorem ends_atFB {ns : List Int} {z : Int} (pz : Per ns z) : atI (dT (endsF ns)) z = some (.tuple (dI (ringF ns z))) := by
  rw [atI_nat pz.1 (by show _ < (((List.map _ (List.map _ _)).length : Nat) : Int); rw [List.length_map, List.length_map, List.length_range]; exact pz.2)]
  have hz2 : z.toNat < ns.length := by have := pz.1; have := pz.2; omega
  show (List.map _ (List.map _ _))[_]? = _
  rw [List.getElem?_map, List.getElem?_map, List.getElem?_range hz2]
  show some (PyData.tuple (dI (ringF ns ((z.toNat : Nat) : Int)))) = _
  rw [Int.toNat_of_nonneg pz.1]
/-- _law_toured: _law_box_here, _law_net, _law_most, _law_turn -/
def b_law_toured : DTS := (dSeq (dFor (dRng1 (dCons (dCall p_law_take (dCons (dVar 0) (dCons (dOp φAdd (dVar 2) (dC (.int 1))) dNil))) dNil)) (dName 3) (dSetG false 1 (dCall p_law_looked (dCons (dVar 1) (dCons (dCall p_law_take (dCons (dVar 0) (dCons (dCB φLen (dCons (dVar 1) dNil)) dNil))) dNil)))))
  (dRet (dVar 1)))
abbrev k_law_toured : Nat := 1
def p_law_toured : DSp := fun args c Q => ∃ (ns : List Int) (m : Int), args = [.bx, .sh (.tuple (dI ns)), .sh (.int m)] ∧ Stt ns ∧ 0 ≤ m ∧ m ≤ 100 ∧ c ≤ 800000000 ∧ ∀ hs c', Stt hs → hs.length = ns.length → Lead ns hs → c' ≤ c + 400 → Q (.sh (.tuple (dI hs))) c'
theorem mon_law_toured : MonF p_law_toured := fun args c A B h ⟨gs, m, ea, h1, m0, m1, h2, q⟩ => ⟨gs, m, ea, h1, m0, m1, h2, fun hs c' a b e d => h _ _ (q hs c' a b e d)⟩
theorem m_law_toured : ∀ args c Q, p_law_toured args c Q → defF k_law_toured b_law_toured args c Q := by
  rintro _ c Q ⟨gs, m, rfl, h1, m0, m1, h2, q⟩
  show b_law_toured _ ⟨[.bx, .sh (.tuple (dI gs)), .sh (.int m), .un], c⟩
  unfold b_law_toured
  have hle := h1.le
  have hge := h1.ge
  refine sq_ ?_
  rfl'
  refine c_take (by omega) (by omega) (by omega) fun r c1 r0 r1 hc1 => ?_
  rfl'
  refine ⟨⟨by omega, by omega⟩, rfl, ?_⟩
  refine for_inv (fun k ε => ∃ hs y3 c2, Stt hs ∧ hs.length = gs.length ∧ Lead gs hs ∧ c2 ≤ c1 + 3 * k ∧ ε = ⟨[.bx, .sh (.tuple (dI hs)), .sh (.int m), y3], c2⟩) _ 0 _ (N := 100) (by rw [rgD_len]; omega) ⟨gs, _, c1, h1, rfl, lead_refl h1, by omega, rfl⟩ ?_ ?_
  · rintro d hd k _ E hk ⟨hs, y3, c2, s1, s2, s3, hc2, rfl⟩ hE
    rfl'
    rw [dI_len]
    refine c_take (by omega) (by omega) (by omega) fun x c3 x0 x1 hc3 => ?_
    rfl'
    refine ⟨hs, x, rfl, s1, ⟨x0, x1⟩, ?_⟩
    rfl'
    exact hE _ ⟨_, _, c3, s1.call ⟨x0, x1⟩, by rw [call1_len]; exact s2, lead_trans h1 s1 s2 s3 (lead_calls [x] s1 fun z hz => by rw [List.mem_singleton.mp hz]; exact ⟨x0, x1⟩), by omega, rfl⟩
  rintro _ ⟨hs, y3, c2, s1, s2, s3, hc2, rfl⟩
  rfl'
  rw [rgD_len] at hc2
  exact q hs c2 s1 s2 s3 (by omega)
end Lp

namespace Lp
open PySem PySem.Spec PyProof.Rows L2
section
variable {w : Wx} {Z : Zx} {O : Addr → Prop} {σ : L2.St} {ε : Env} {L H : Hp} {k : Nat} {a : Addr} {xs : List V} {ds : List PyData}
theorem VR0.old {Hs Hs' : Hp} {v : V} {r : R} (h : ∀ b, Hs b = none → Hs' b = none) (x : VR0 Hs L H v r) : VR0 Hs' L H v r := by
  cases r with
  | nw ds =>
    obtain ⟨b, ys, rfl, h1, h2⟩ := x
    exact ⟨b, ys, rfl, h b h1, h2⟩
  | dnw rows =>
    obtain ⟨b, rfl, h1, h2⟩ := x
    exact ⟨b, rfl, h b h1, h2⟩
  | _ => exact x
end
section
variable {w : Wx} {K : PySem.W.Frag}
/-- for .. in xs, xs the own list of slot k, which the body leaves alone -/
def dForO (k : Nat) (γ : DTG) (p : DTS) (Δ : DEnds) (ε : Env) : Prop := match ε.s[k]? with
  | some (.ow ds) => ∀ v, forD γ p { nx := fun ε' => ε'.s[k]? = some (.raw v) ∧ Δ.nx (ε'.set k (.ow ds)), rt := Δ.rt, bk := Δ.bk, ct := Δ.ct } ds (ε.set k (.raw v))
  | _ => False
end
end Lp

namespace Lp
open PySem PySem.Spec PyProof.Rows L2
local macro_rules | `(tactic| rfl') => `(tactic| try dsimp only [dVar_, gv_sh, gv_ow, gv_bx, gv_raw, gv_exn, gv_st, dC, dRaw, dOp, dUn, dTest, dTruth, dAnd, dOr, dNot, dYes, dIf, dAndV, dOrV, dNotV, dNotT, dChain, dNil, dCons, dTup, dLst, dats, dCB, dNoP, dPart, dSl, dNext, dBreak, dCont, dNever, dDrop, dRet, dRetN, dIfS, dSetG, dPar, dPar3, dAppend, dAppPop, dSetIx, dExt, dAug, dSet0, dSAdd, dSNotIn, dIter_, gi_l, gi_t, gi_b, dRng1, dRng2, dName, dGNil, dGCons, dGTup, dAsg, dFor, dWhile, dCall, dCallR, dArgs_, ga_f, ga_t, argsOf, dLc, wipeE, dListRg, dIndex, dSortSet, dSortSc, dEnum, dEnA, dZip, dIsi, dIsi2, isaT, φI, φB, φC, φNeg, add_i, add_l, add_t, mul_i, mul_l, φIx, sl_l, sl_t, eq_i, eq_s, eq_l, eq_t, eq_b, eq_n, φIsN, isN_n, isN_b, isN_i, isN_s, isN_l, isN_t, φLen, φList, φTuple, φAbs, φInt, φMax, φIsB, φIsNB, its_l, its_t, rd_sh, rd_nw, rd_br, rp_sh, rp_nw, rp_br, rp_bx, rp_raw, rp_sr, rr_sh, rr_nw, rr_br, ra_sh, ra_br, ra_bx, ra_raw, va_sh, va_nt, va_nf, va_raw, hb_n, hb_sh, hb_bx, hb_raw, hb_br, sh_n, sh_c, tr_n, tr_b, tr_i, tr_l, tr_t, ty_n, ty_b, ty_i, ty_s, ty_l, ty_t, if_ff, if_tt, Env.set, List.getElem?_cons_succ, List.getElem?_cons_zero, List.set_cons_succ, List.set_cons_zero, List.reverse_cons, List.reverse_nil, List.nil_append, List.cons_append, Option.bind_some, ite_true, ite_false, dCallX, dArgsX_, gx_s, dRaise, dIsX, dAttr, dIsNE, dListZip, dForO, dST0, dSTAdd, dSTIn, dDc, gv_sto, dPub, gv_dco, gv_dsh, dDIn, dDGet, dSortD, dDisp1, dDNew, dDPut, va_dt, va_df, va_ds, rr_dn, rr_db, rr_ds, rw_dn, rw_db, rw_ds])
theorem sub_of_sub : ∀ {R K1 K2 : List Int}, R.Nodup → K1.Sublist R → K2.Sublist R → (∀ x ∈ K1, x ∈ K2) → K1.Sublist K2
  | [], K1, K2, _, h1, _, _ => by cases h1; exact List.nil_sublist _
  | r :: R, K1, K2, nd, h1, h2, s => by
    have n2 := List.nodup_cons.mp nd
    cases h1 with
    | cons _ h1 =>
      cases h2 with
      | cons _ h2 => exact sub_of_sub n2.2 h1 h2 s
      | cons_cons _ h2 =>
        refine (sub_of_sub n2.2 h1 h2 fun x hx => ?_).cons r
        rcases List.mem_cons.mp (s x hx) with e | e
        · exact absurd (h1.subset hx) (by rw [e]; exact n2.1)
        · exact e
    | cons_cons _ h1 =>
      cases h2 with
      | cons _ h2 => exact absurd (h2.subset (s r List.mem_cons_self)) n2.1
      | cons_cons _ h2 =>
        refine (sub_of_sub n2.2 h1 h2 fun x hx => ?_).cons_cons r
        rcases List.mem_cons.mp (s x (List.mem_cons_of_mem _ hx)) with e | e
        · exact absurd (h1.subset hx) (by rw [e]; exact n2.1)
        · exact e
theorem idx_neB {x y : Int} {l : List Int} (h : x ≠ y) : (x :: l).idxOf y = l.idxOf y + 1 := by
  rw [List.idxOf_cons, beq_eq_false_iff_ne.mpr h]; rfl
theorem asc_sub : ∀ (own ls : List Int), own.Nodup → (∀ x ∈ ls, x ∈ own) → ls.Pairwise (fun x y => own.idxOf x < own.idxOf y) → ls.Sublist own
  | own, [], _, _, _ => List.nil_sublist _
  | [], x :: ls, _, h, _ => nomatch h x List.mem_cons_self
  | o :: os, x :: ls, nd, h, pw => by
    have n2 := List.nodup_cons.mp nd
    have p2 := List.pairwise_cons.mp pw
    have low : ∀ y ∈ ls, o ≠ y ∧ y ∈ os := fun y hy => by
      have l := p2.1 y hy
      have ne : o ≠ y := fun e => by
        rw [← e, List.idxOf_cons_self] at l; omega
      exact ⟨ne, (List.mem_cons.mp (h y (List.mem_cons_of_mem _ hy))).resolve_left (Ne.symm ne)⟩
    have pw2 : ls.Pairwise (fun x y => os.idxOf x < os.idxOf y) := p2.2.imp_of_mem fun {a b} ha hb l => by
      rw [idx_neB (low a ha).1, idx_neB (low b hb).1] at l; omega
    by_cases e : o = x
    · subst e
      exact (asc_sub os ls n2.2 (fun y hy => (low y hy).2) pw2).cons_cons o
    · have hx : x ∈ os := (List.mem_cons.mp (h x List.mem_cons_self)).resolve_left (Ne.symm e)
      refine (asc_sub os (x :: ls) n2.2 (fun y hy => ?_) (List.pairwise_cons.mpr ⟨fun y hy => ?_, pw2⟩)).cons o
      · rcases List.mem_cons.mp hy with z | z
        · rw [z]; exact hx
        · exact (low y z).2
      · have l := p2.1 y hy
        rw [idx_neB e, idx_neB (low y hy).1] at l; omega
theorem broken_asc {own : List Int} : ∀ ls : List Int, ls.Nodup → (∀ x ∈ ls, x ∈ own) → brokenL own ls = none → ls.Pairwise (fun x y => own.idxOf x < own.idxOf y)
  | [], _, _, _ => List.Pairwise.nil
  | [x], _, _, _ => List.pairwise_singleton _ _
  | x :: y :: r, nd, h, b => by
    unfold brokenL at b
    by_cases q : own.idxOf y < own.idxOf x
    · rw [if_pos q] at b; cases b
    rw [if_neg q] at b
    have n2 := List.nodup_cons.mp nd
    have ih := broken_asc (y :: r) n2.2 (fun z hz => h z (List.mem_cons_of_mem _ hz)) b
    have p2 := List.pairwise_cons.mp ih
    have xy : own.idxOf x < own.idxOf y := by
      have ne : own.idxOf x ≠ own.idxOf y := fun e => by
        have a := idx_get (h x List.mem_cons_self)
        rw [e, idx_get (h y (List.mem_cons_of_mem _ List.mem_cons_self))] at a
        exact n2.1 (by rw [← Option.some.inj a]; exact List.mem_cons_self)
      omega
    refine List.pairwise_cons.mpr ⟨fun z hz => ?_, ih⟩
    rcases List.mem_cons.mp hz with e | e
    · rw [e]; exact xy
    · have := p2.1 z e; omega
theorem broken_sub {own ls : List Int} (nd : own.Nodup) (n2 : ls.Nodup) (h : ∀ x ∈ ls, x ∈ own) (b : brokenL own ls = none) : ls.Sublist own := asc_sub own ls nd h (broken_asc ls n2 h b)
theorem turnTo_mid {X Y : List Int} {z : Int} (h : z ∉ X) : turnTo (X ++ z :: Y) z = z :: Y ++ X := by
  have e : (X ++ z :: Y).idxOf z = X.length := by
    rw [List.idxOf_append, if_neg h, List.idxOf_cons_self]; omega
  unfold turnTo
  rw [e, List.drop_left, List.take_left]
theorem mid_of {R : List Int} {z : Int} (h : z ∈ R) : ∃ X Y, R = X ++ z :: Y ∧ z ∉ X := by
  induction R with
  | nil => cases h
  | cons r R ih =>
    by_cases e : z = r
    · exact ⟨[], R, by rw [e]; rfl, fun q => nomatch q⟩
    · obtain ⟨X, Y, h1, h2⟩ := ih ((List.mem_cons.mp h).resolve_left e)
      exact ⟨r :: X, Y, by rw [h1]; rfl, fun q => by
        rcases List.mem_cons.mp q with a | a
        · exact e a
        · exact h2 a⟩
theorem turnTo_filter {R : List Int} {z : Int} (k : Int → Bool) (h : z ∈ R) (hk : k z = true) : turnTo (R.filter k) z = (turnTo R z).filter k := by
  obtain ⟨X, Y, rfl, nx⟩ := mid_of h
  rw [turnTo_mid nx, List.filter_append, List.filter_cons_of_pos hk, turnTo_mid (fun q => nx (List.mem_filter.mp q).1), List.filter_append, List.filter_cons_of_pos hk]
theorem turnTo_nodup {R : List Int} {z : Int} (nd : R.Nodup) : (turnTo R z).Nodup := by
  unfold turnTo
  refine (List.perm_append_comm.trans ?_).nodup_iff.mpr nd
  rw [List.take_append_drop]
def brkP (ns ms : List Int) (p : Int) : Option (Int × Int) := brokenL (turnTo (ringF ms p) ((smT ns ms p).headD 0)) (smT ns ms p).tail
def odF (ns ms : List Int) : Option Int := (nsI ns.length).find? fun p => (brkP ns ms p).isSome
def obD (ns ms : List Int) (p : Int) : PyData := brkD (turnTo (ringF ms p) ((smT ns ms p).headD 0)) (smT ns ms p)
def pstD (ns ms : List Int) : PyData := match apF ns ms with
  | some p => .tuple [.str "people", .int p]
  | none => match odF ns ms with
    | some p => obD ns ms p
    | none => .none
theorem same_comp {ns ms : List Int} (ap : apF ns ms = none) {p : Int} (hp : Per ns p) : compF ns p = compF ms p := by
  have := List.find?_eq_none.mp ap p (nsI_mem.mpr hp)
  simpa using this
theorem same_ring {ns ms : List Int} (h : Stt ns) (k : Stt ms) (l : ms.length = ns.length) (ap : apF ns ms = none) {p q : Int} (hp : Per ns p) (hq : Per ns q) : ringF ns p = ringF ns q ↔ ringF ms p = ringF ms q := by
  have pm : ∀ {p}, Per ns p → Per ms p := fun {p} q => ⟨q.1, by rw [l]; exact q.2⟩
  rw [← head_iff h.lo hp.1 hp.2 hq.1 hq.2, ← head_iff k.lo (pm hp).1 (pm hp).2 (pm hq).1 (pm hq).2]
  have c := same_comp ap hp
  constructor
  · intro e
    have m : q ∈ compF ms p := by rw [← c]; exact comp_mem.mpr ⟨hq, e.symm⟩
    exact (comp_mem.mp m).2.symm
  · intro e
    have m : q ∈ compF ns p := by rw [c]; exact comp_mem.mpr ⟨pm hq, e.symm⟩
    exact (comp_mem.mp m).2.symm
theorem smT_same {ns ms : List Int} (h : Stt ns) (k : Stt ms) (l : ms.length = ns.length) (ap : apF ns ms = none) {p q : Int} (hp : Per ns p) (hq : Per ns q) (e : ringF ns p = ringF ns q) : smT ns ms p = smT ns ms q := by
  unfold smT
  rw [sm_same h k l ap hp hq e]
theorem od_find {ns ms : List Int} (h : Stt ns) (k : Stt ms) (l : ms.length = ns.length) (ap : apF ns ms = none) {CS : List (List Int)} (hC : CompsOf ns CS) : (CS.find? fun G => (brkP ns ms (G.headD 0)).isSome).map (fun G => G.headD 0) = odF ns ms := by
  have key : (hdLB CS).find? (fun p => (brkP ns ms p).isSome) = odF ns ms := hd_find h hC _ fun p q hp hq e => by
    have r1 : ringF ns p = ringF ns q := (head_iff h.lo hp.1 hp.2 hq.1 hq.2).mp e
    have r2 := (same_ring h k l ap hp hq).mp r1
    unfold brkP
    rw [smT_same h k l ap hp hq r1, r2]
  rw [← key]
  unfold hdLB
  rw [List.find?_map]
  rfl
theorem smT_in {ns ms : List Int} {p z : Int} (hz : z ∈ smT ns ms p) : z ∈ ringF ns p ∧ z ∈ ringF ms p := by
  unfold smT at hz
  by_cases e : smF ns ms p = []
  · rw [if_pos e] at hz; cases hz
  · rw [if_neg e] at hz
    have := List.mem_filter.mp (mem_turnTo.mp hz)
    exact ⟨this.1, of_decide_eq_true this.2⟩
theorem obD_some {ns ms : List Int} {p : Int} (h : (brkP ns ms p).isSome = true) : ∃ e l, obD ns ms p = .tuple [.str "order", .int ((smT ns ms p).headD 0), .int e, .int l] := by
  unfold obD brkD
  unfold brkP at h
  cases e : brokenL (turnTo (ringF ms p) ((smT ns ms p).headD 0)) (smT ns ms p).tail with
  | none => rw [e] at h; cases h
  | some x => exact ⟨x.1, x.2, rfl⟩
theorem obD_none {ns ms : List Int} {p : Int} (h : (brkP ns ms p).isSome = false) : obD ns ms p = .none := by
  unfold obD brkD
  unfold brkP at h
  cases e : brokenL (turnTo (ringF ms p) ((smT ns ms p).headD 0)) (smT ns ms p).tail with
  | none => rfl
  | some x => rw [e] at h; cases h
/-- past_bar: one, other, bar, group, broken -/
def b_past_bar : DTS := (dSeq (dDrop (dCall p_check_size (dCons (dVar 0) (dCons (dVar 1) dNil))))
  (dSeq (dSetG false 2 (dCall p_people_bar (dCons (dVar 0) (dCons (dVar 1) dNil))))
  (dSeq (dIfS (dTest (dOp (φIsN true) (dVar 2) (dC .none))) (dRet (dVar 2)) dNext)
  (dSeq (dFor (dIter (dCall p_components (dCons (dVar 0) dNil))) (dName 3) (dSeq (dSetG false 4 (dCall p_order_broken (dCons (dCall p_shared_members (dCons (dVar 0) (dCons (dVar 1) (dCons (dOp φIx (dVar 3) (dC (.int 0))) dNil)))) (dCons (dCall p_ring_of (dCons (dVar 1) (dCons (dOp φIx (dVar 3) (dC (.int 0))) dNil))) dNil))))
  (dIfS (dTest (dOp (φIsN true) (dVar 4) (dC .none))) (dRet (dVar 4)) dNext)))
  (dRet (dC .none))))))
abbrev k_past_bar : Nat := 3
def p_past_bar : DSp := fun args c Q => ∃ (d e : PyData) (ns ms : List Int), args = [.sh d, .sh e] ∧ PyData.its d = some (dI ns) ∧ PyData.its e = some (dI ms) ∧ Stt ns ∧ Stt ms ∧ ms.length = ns.length ∧ ns.length ≤ 60 ∧ Q (.sh (pstD ns ms)) c
theorem mon_past_bar : MonF p_past_bar := fun args c A B h ⟨d, e, ns, ms, ea, h1, h2, h3, h4, h5, h6, q⟩ => ⟨d, e, ns, ms, ea, h1, h2, h3, h4, h5, h6, h _ _ q⟩
abbrev pbody : DTS := (dSeq (dSetG false 4 (dCall p_order_broken (dCons (dCall p_shared_members (dCons (dVar 0) (dCons (dVar 1) (dCons (dOp φIx (dVar 3) (dC (.int 0))) dNil)))) (dCons (dCall p_ring_of (dCons (dVar 1) (dCons (dOp φIx (dVar 3) (dC (.int 0))) dNil))) dNil))))
  (dIfS (dTest (dOp (φIsN true) (dVar 4) (dC .none))) (dRet (dVar 4)) dNext))
theorem pst_loop {d e : PyData} {ns ms : List Int} (h1 : PyData.its d = some (dI ns)) (h2 : PyData.its e = some (dI ms)) (h3 : Stt ns) (h4 : Stt ms) (h5 : ms.length = ns.length) {s2 : SV} {Δ : DEnds} {c : Nat} : ∀ (CS : List (List Int)) (y z : SV), (∀ G ∈ CS, G ≠ [] ∧ Per ns (G.headD 0)) → (match CS.find? fun G => (brkP ns ms (G.headD 0)).isSome with
      | some G => ∀ y z, Δ.rt (.sh (obD ns ms (G.headD 0))) ⟨[.sh d, .sh e, s2, y, z], c⟩
      | none => ∀ y z, Δ.nx ⟨[.sh d, .sh e, s2, y, z], c⟩) →
    forD (dName 3) pbody Δ (dT CS) ⟨[.sh d, .sh e, s2, y, z], c⟩
  | [], y, z, _, q => q y z
  | G :: CS, y, z, ne, q => by
    show forD _ _ _ (.tuple (dI G) :: dT CS) _
    refine for_cons ?_
    unfold pbody
    obtain ⟨g0, pg⟩ := ne G List.mem_cons_self
    have pm : Per ms (G.headD 0) := ⟨pg.1, by rw [h5]; exact pg.2⟩
    rw [List.find?_cons] at q
    have ix : atI (dI G) 0 = some (.int (G.headD 0)) := by
      cases G with
      | nil => exact absurd rfl g0
      | cons g r => exact atI_dI (ns := g :: r) (by decide) (by rw [List.length_cons]; omega)
    rfl'
    refine sq_ ?_
    rfl'
    refine ⟨_, ix, ?_⟩
    rfl'
    refine ⟨d, e, ns, ms, _, rfl, h1, h2, h3, h4, h5, pg, ?_⟩
    rfl'
    refine ⟨_, ix, ?_⟩
    rfl'
    refine ⟨e, ms, _, rfl, h2, h4, pm, ?_⟩
    rfl'
    have rl := ring_le h4 pm
    have hle := h4.le
    refine ⟨true, smT ns ms (G.headD 0), _, rfl, fun z hz => (smT_in hz).2, by omega, ?_⟩
    rw [show brkD (turnTo (ringF ms (G.headD 0)) ((smT ns ms (G.headD 0)).headD 0)) (smT ns ms (G.headD 0)) = obD ns ms (G.headD 0) from rfl]
    cases b : (brkP ns ms (G.headD 0)).isSome with
    | true =>
      rw [b] at q
      obtain ⟨x, l, eo⟩ := obD_some b
      have q : ∀ y z, Δ.rt (.sh (obD ns ms (G.headD 0))) ⟨[.sh d, .sh e, s2, y, z], c⟩ := q
      rw [eo] at q ⊢
      rfl'
      refine if_t rfl ?_
      exact q _ _
    | false =>
      rw [b] at q
      rw [obD_none b]
      rfl'
      refine if_f (by decide) ?_
      exact pst_loop h1 h2 h3 h4 h5 CS _ _ (fun X hX => ne X (List.mem_cons_of_mem _ hX)) q
abbrev pstT : DTS := (dSeq (dSetG false 2 (dCall p_people_bar (dCons (dVar 0) (dCons (dVar 1) dNil))))
  (dSeq (dIfS (dTest (dOp (φIsN true) (dVar 2) (dC .none))) (dRet (dVar 2)) dNext)
  (dSeq (dFor (dIter (dCall p_components (dCons (dVar 0) dNil))) (dName 3) pbody)
  (dRet (dC .none)))))
theorem pst_tail {d e : PyData} {ns ms : List Int} {Q : R → Nat → Prop} {c : Nat} (h1 : PyData.its d = some (dI ns)) (h2 : PyData.its e = some (dI ms)) (h3 : Stt ns) (h4 : Stt ms) (h5 : ms.length = ns.length) (h6 : ns.length ≤ 60) (q : Q (.sh (pstD ns ms)) c) : pstT { nx := fun ε => Q (.sh .none) ε.c, rt := fun r ε => Q r ε.c } ⟨[.sh d, .sh e, .un, .un, .un], c⟩ := by
  unfold pstT
  refine sq_ ?_
  rfl'
  refine ⟨d, e, ns, ms, rfl, h1, h2, h3, h4, h5, h6, ?_⟩
  unfold pstD at q
  unfold pbarD
  cases ap : apF ns ms with
  | some p =>
    rw [ap] at q
    rfl'
    refine sq_ ?_
    rfl'
    refine if_t rfl ?_
    exact q
  | none =>
    rw [ap] at q
    rfl'
    refine sq_ ?_
    rfl'
    refine if_f (by decide) ?_
    refine sq_ ?_
    have hloop := fun CS (hC : CompsOf ns CS) => pst_loop h1 h2 h3 h4 h5 (s2 := .sh .none) (Δ := { nx := fun ε => Q (.sh .none) ε.c, rt := fun r ε => Q r ε.c }) (c := c) CS .un .un (fun G hG => ⟨comps_ne hC G hG, (hd_coverB h3 hC).per _ (List.mem_map.mpr ⟨G, hG, rfl⟩)⟩)
    rfl'
    refine ⟨d, ns, rfl, h1, h3, h6, fun CS hC => ?_⟩
    rfl'
    refine ⟨rfl, ?_⟩
    rw [← od_find h3 h4 h5 ap hC] at q
    refine hloop CS hC ?_
    cases f : CS.find? fun G => (brkP ns ms (G.headD 0)).isSome with
    | some G => rw [f] at q; exact fun _ _ => q
    | none => rw [f] at q; intro y z; exact q
theorem m_past_bar : ∀ args c Q, p_past_bar args c Q → defF k_past_bar b_past_bar args c Q := by
  rintro _ c Q ⟨d, e, ns, ms, rfl, h1, h2, h3, h4, h5, h6, q⟩
  show b_past_bar _ ⟨[.sh d, .sh e, .un, .un, .un], c⟩
  unfold b_past_bar
  refine sq_ ?_
  rfl'
  refine ⟨d, e, _, _, rfl, h1, h2, by rw [dI_len, dI_len]; exact h5, ?_⟩
  exact pst_tail h1 h2 h3 h4 h5 h6 q
end Lp

namespace Lp
open PySem PySem.Spec PyProof.Rows L2
local macro_rules | `(tactic| rfl') => `(tactic| try dsimp only [dVar_, gv_sh, gv_ow, gv_bx, gv_raw, gv_exn, gv_st, dC, dRaw, dOp, dUn, dTest, dTruth, dAnd, dOr, dNot, dYes, dIf, dAndV, dOrV, dNotV, dNotT, dChain, dNil, dCons, dTup, dLst, dats, dCB, dNoP, dPart, dSl, dNext, dBreak, dCont, dNever, dDrop, dRet, dRetN, dIfS, dSetG, dPar, dPar3, dAppend, dAppPop, dSetIx, dExt, dAug, dSet0, dSAdd, dSNotIn, dIter_, gi_l, gi_t, gi_b, dRng1, dRng2, dName, dGNil, dGCons, dGTup, dAsg, dFor, dWhile, dCall, dCallR, dArgs_, ga_f, ga_t, argsOf, dLc, wipeE, dListRg, dIndex, dSortSet, dSortSc, dEnum, dEnA, dZip, dIsi, dIsi2, isaT, φI, φB, φC, φNeg, add_i, add_l, add_t, mul_i, mul_l, φIx, sl_l, sl_t, eq_i, eq_s, eq_l, eq_t, eq_b, eq_n, φIsN, isN_n, isN_b, isN_i, isN_s, isN_l, isN_t, φLen, φList, φTuple, φAbs, φInt, φMax, φIsB, φIsNB, its_l, its_t, rd_sh, rd_nw, rd_br, rp_sh, rp_nw, rp_br, rp_bx, rp_raw, rp_sr, rr_sh, rr_nw, rr_br, ra_sh, ra_br, ra_bx, ra_raw, va_sh, va_nt, va_nf, va_raw, hb_n, hb_sh, hb_bx, hb_raw, hb_br, sh_n, sh_c, tr_n, tr_b, tr_i, tr_l, tr_t, ty_n, ty_b, ty_i, ty_s, ty_l, ty_t, if_ff, if_tt, Env.set, List.getElem?_cons_succ, List.getElem?_cons_zero, List.set_cons_succ, List.set_cons_zero, List.reverse_cons, List.reverse_nil, List.nil_append, List.cons_append, Option.bind_some, ite_true, ite_false, dCallX, dArgsX_, gx_s, dRaise, dIsX, dAttr, dIsNE, dListZip, dForO, dST0, dSTAdd, dSTIn, dDc, gv_sto, dPub, gv_dco, gv_dsh, dDIn, dDGet, dSortD, dDisp1, dDNew, dDPut, va_dt, va_df, va_ds, rr_dn, rr_db, rr_ds, rw_dn, rw_db, rw_ds])
def nxL (L : List Int) (p : Int) : Int := L.getD ((L.idxOf p + 1) % L.length) 0
def nxP (LS : List (List Int)) (p : Int) : Int := match LS.find? (fun L => decide (p ∈ L)) with
  | some L => nxL L p
  | none => 0
def rsF (n : Nat) (LS : List (List Int)) : List Int := (nsI n).map (nxP LS)
def prL (L : List Int) : List (Int × Int) := L.zip (L.drop 1 ++ L.take 1)
theorem rot_len (L : List Int) : (L.drop 1 ++ L.take 1).length = L.length := by
  rw [List.length_append, List.length_drop, List.length_take]; omega
theorem rot_get {L : List Int} {i : Nat} (h : i < L.length) : (L.drop 1 ++ L.take 1)[i]'(by rw [rot_len]; exact h) = L.getD ((i + 1) % L.length) 0 := by
  by_cases q : i + 1 < L.length
  · rw [List.getElem_append_left (by rw [List.length_drop]; omega), List.getElem_drop, Nat.mod_eq_of_lt q, List.getD_eq_getElem?_getD, List.getElem?_eq_getElem q]
    show L[1 + i] = L[i + 1]
    congr 1; omega
  · have e : i + 1 = L.length := by omega
    rw [List.getElem_append_right (by rw [List.length_drop]; omega), List.getElem_take, e, Nat.mod_self, List.getD_eq_getElem?_getD, List.getElem?_eq_getElem (by omega)]
    show L[i - (L.drop 1).length] = L[0]
    congr 1; rw [List.length_drop]; omega
theorem prL_fst (L : List Int) : (prL L).map (·.1) = L := by
  unfold prL
  exact List.map_fst_zip (by rw [rot_len]; omega)
theorem prL_mem {L : List Int} (nd : L.Nodup) {a b : Int} (h : (a, b) ∈ prL L) : a ∈ L ∧ b = nxL L a := by
  obtain ⟨i, hi, e⟩ := List.mem_iff_getElem.mp h
  unfold prL at hi e
  rw [List.length_zip, rot_len] at hi
  rw [List.getElem_zip] at e
  have hl : i < L.length := by omega
  have e1 : L[i] = a := congrArg Prod.fst e
  have e2 : (L.drop 1 ++ L.take 1)[i]'(by rw [rot_len]; exact hl) = b := congrArg Prod.snd e
  rw [rot_get hl] at e2
  have ix : L.idxOf a = i := by
    rw [← e1]
    exact nd.idxOf_getElem i hl
  refine ⟨by rw [← e1]; exact List.getElem_mem _, ?_⟩
  unfold nxL
  rw [ix, e2]
theorem find_lap : ∀ {LS : List (List Int)} {L : List Int} {p : Int}, LS.flatten.Nodup → L ∈ LS → p ∈ L → LS.find? (fun L => decide (p ∈ L)) = some L
  | M :: LS, L, p, nd, hL, hp => by
    rw [List.flatten_cons] at nd
    have n2 := List.nodup_append.mp nd
    rw [List.find?_cons]
    by_cases q : p ∈ M
    · rw [decide_eq_true q]
      rcases List.mem_cons.mp hL with e | e
      · rw [e]
      · exact absurd rfl (n2.2.2 p q p (List.mem_flatten.mpr ⟨L, e, hp⟩))
    · rw [decide_eq_false q]
      rcases List.mem_cons.mp hL with e | e
      · rw [e] at hp; exact absurd hp q
      · exact find_lap n2.2.1 e hp
theorem nx_lap {LS : List (List Int)} (nd : LS.flatten.Nodup) {L : List Int} {p : Int} (hL : L ∈ LS) (hp : p ∈ L) : nxP LS p = nxL L p := by
  unfold nxP
  rw [find_lap nd hL hp]
theorem lap_nodup {LS : List (List Int)} (nd : LS.flatten.Nodup) {L : List Int} (hL : L ∈ LS) : L.Nodup := (List.sublist_flatten_of_mem hL).nodup nd
theorem nsI_nodup (n : Nat) : (nsI n).Nodup := (nsI_asc n).imp fun {a b} h e => by omega
structure LapsP (n : Nat) (LS : List (List Int)) : Prop where
  perm : LS.flatten.Perm (nsI n)
theorem LapsP.nd {n : Nat} {LS : List (List Int)} (h : LapsP n LS) : LS.flatten.Nodup := h.perm.nodup_iff.mpr (nsI_nodup n)
theorem LapsP.mem {n : Nat} {LS : List (List Int)} (h : LapsP n LS) {p : Int} : (∃ L ∈ LS, p ∈ L) ↔ 0 ≤ p ∧ p < (n : Int) := by
  rw [← nsI_mem, ← h.perm.mem_iff, List.mem_flatten]
theorem rsF_len (n : Nat) (LS : List (List Int)) : (rsF n LS).length = n := by unfold rsF; rw [List.length_map, nsI_len]
theorem gt_rsF {n : Nat} {LS : List (List Int)} {p : Int} (h0 : 0 ≤ p) (h1 : p < (n : Int)) : gt (rsF n LS) p = nxP LS p := by
  have hi : p.toNat < n := by omega
  have := gt_nat (ns := rsF n LS) (j := p.toNat) (by rw [rsF_len]; exact hi)
  rw [show ((p.toNat : Nat) : Int) = p by omega] at this
  rw [this]
  unfold rsF nsI
  rw [List.getElem_map, List.getElem_map, List.getElem_range, show ((p.toNat : Nat) : Int) = p by omega]
theorem nxL_mem {L : List Int} {p : Int} (hp : p ∈ L) : nxL L p ∈ L := by
  unfold nxL
  have := List.length_pos_of_mem hp
  exact getD_mem (Nat.mod_lt _ this)
theorem LapsP.stt {n : Nat} {LS : List (List Int)} (h : LapsP n LS) (n0 : 1 ≤ n) (n1 : n ≤ 1000) : Stt (rsF n LS) := by
  refine ⟨fun z hz => ?_, by rw [rsF_len]; exact n1, by rw [rsF_len]; exact n0⟩
  rw [rsF_len]
  obtain ⟨p, hp, rfl⟩ := List.mem_map.mp hz
  obtain ⟨L, hL, pL⟩ := h.mem.mpr (nsI_mem.mp hp)
  rw [nx_lap h.nd hL pL]
  exact h.mem.mp ⟨L, hL, nxL_mem pL⟩
/-- within a lap each points at the next -/
theorem LapsP.next {n : Nat} {LS : List (List Int)} (h : LapsP n LS) {L : List Int} (hL : L ∈ LS) {i : Nat} (hi : i < L.length) : gt (rsF n LS) (L.getD i 0) = L.getD ((i + 1) % L.length) 0 := by
  have m : L.getD i 0 ∈ L := getD_mem hi
  have b := h.mem.mp ⟨L, hL, m⟩
  rw [gt_rsF b.1 b.2, nx_lap h.nd hL m]
  unfold nxL
  have e : L.getD i 0 = L[i] := by rw [List.getD_eq_getElem?_getD, List.getElem?_eq_getElem hi]; rfl
  rw [e, (lap_nodup h.nd hL).idxOf_getElem i hi]
theorem pairs_state {n : Nat} {LS : List (List Int)} (h : LapsP n LS) {qs : List (Int × Int)} (hp : qs.Perm (LS.flatMap prL)) (pw : qs.Pairwise (fun p q => p.1 ≤ q.1)) : qs.map (·.2) = rsF n LS := by
  have fst : (LS.flatMap prL).map (·.1) = LS.flatten := by
    clear h hp
    induction LS with
    | nil => rfl
    | cons L LS ih => rw [List.flatMap_cons, List.map_append, prL_fst, ih, List.flatten_cons]
  have p1 := hp.map (·.1)
  rw [fst] at p1
  have p2 := p1.trans h.perm
  have e : qs.map (·.1) = nsI n := by
    have nd : (qs.map (·.1)).Nodup := p2.nodup_iff.mpr (nsI_nodup n)
    have a1 : (qs.map (·.1)).Pairwise (· ≤ ·) := List.pairwise_map.mpr pw
    exact p2.eq_of_pairwise (le := (· ≤ ·)) (fun a b _ _ x y => Int.le_antisymm x y) a1 ((nsI_asc n).imp fun {a b} l => by omega)
  unfold rsF
  rw [← e, List.map_map]
  refine List.map_congr_left fun p hm => ?_
  obtain ⟨a, b⟩ := p
  obtain ⟨L, hL, m⟩ := List.mem_flatMap.mp (hp.mem_iff.mp hm)
  obtain ⟨q1, q2⟩ := prL_mem (lap_nodup h.nd hL) m
  show b = nxP LS a
  rw [nx_lap h.nd hL q1, q2]
theorem zip_rot (L : List Int) : zipDs (dI L) (dI (L.drop 1 ++ L.take 1)) = dT ((prL L).map pairL) := by
  unfold zipDs prL
  show List.zipWith _ (List.map _ _) (List.map _ _) = List.map _ (List.map _ _)
  rw [List.zipWith_map, List.map_map, List.zip_eq_zipWith, List.map_zipWith]
  rfl
/-- ring_state: laps, pairs, lap -/
def b_ring_state : DTS := (dSeq (dSetG true 1 (dLst dNil))
  (dSeq (dFor (dIter (dVar 0)) (dName 2) (dExt 1 (dListZip (dCons (dVar 2) (dCons (dOp φAdd (dSl φSl (dVar 2) (dPart (dC (.int 1))) dNoP) (dSl φSl (dVar 2) dNoP (dPart (dC (.int 1))))) dNil)))))
  (dPub 1 (dRet (dCall p_state_of (dCons (dVar 1) dNil))))))
abbrev k_ring_state : Nat := 2
def p_ring_state : DSp := fun args c Q => ∃ (n : Nat) (LS : List (List Int)), args = [.sh (.list (LS.map fun L => .list (dI L)))] ∧ LapsP n LS ∧ n ≤ 1000 ∧ Q (.sh (.tuple (dI (rsF n LS)))) c
theorem mon_ring_state : MonF p_ring_state := fun args c A B h ⟨n, LS, e, h1, h2, q⟩ => ⟨n, LS, e, h1, h2, h _ _ q⟩
theorem flat_lenP (LS : List (List Int)) : (LS.flatMap prL).length = LS.flatten.length := by
  induction LS with
  | nil => rfl
  | cons L LS ih =>
    rw [List.flatMap_cons, List.length_append, ih, List.flatten_cons, List.length_append]
    have := congrArg List.length (prL_fst L)
    rw [List.length_map] at this
    omega
theorem rs_loopP {s0 : SV} {Δ : DEnds} {c : Nat} : ∀ (LS : List (List Int)) (P : List (Int × Int)) (y : SV), P.length + LS.flatten.length ≤ 1000 → (∀ y, Δ.nx ⟨[s0, .ow (dT ((P ++ LS.flatMap prL).map pairL)), y], c⟩) →
    forD (dName 2) (dExt 1 (dListZip (dCons (dVar 2) (dCons (dOp φAdd (dSl φSl (dVar 2) (dPart (dC (.int 1))) dNoP) (dSl φSl (dVar 2) dNoP (dPart (dC (.int 1))))) dNil)))) Δ (LS.map fun L => .list (dI L)) ⟨[s0, .ow (dT (P.map pairL)), y], c⟩
  | [], P, y, _, q => by
    rw [List.flatMap_nil, List.append_nil] at q
    exact q y
  | L :: LS, P, y, le, q => by
    rw [List.map_cons]
    refine for_cons ?_
    rw [List.flatten_cons, List.length_append] at le
    have pl : (prL L).length = L.length := by
      have := congrArg List.length (prL_fst L)
      rw [List.length_map] at this
      exact this
    rfl'
    rw [cutD_from _ _ (by decide), cutD_to _ _ (by decide), dI_drop, dI_take, dI_app]
    refine ⟨show _ ≤ 16777216 by rw [dI_len, dI_len, List.length_drop, List.length_take]; omega, ?_⟩
    rw [show (1 : Int).toNat = 1 from rfl, zip_rot]
    rfl'
    refine ⟨show _ ≤ 16777216 by rw [dT_len, dT_len, List.length_map, List.length_map]; omega, ?_⟩
    rw [show dT (P.map pairL) ++ dT ((prL L).map pairL) = dT ((P ++ prL L).map pairL) by unfold dT; rw [List.map_append, List.map_append]]
    refine rs_loopP LS (P ++ prL L) _ (by rw [List.length_append]; omega) ?_
    rw [List.flatMap_cons, ← List.append_assoc] at q
    exact q
theorem m_ring_state : ∀ args c Q, p_ring_state args c Q → defF k_ring_state b_ring_state args c Q := by
  rintro _ c Q ⟨n, LS, rfl, h1, h2, q⟩
  show b_ring_state _ ⟨[.sh (.list (LS.map fun L => .list (dI L))), .un, .un], c⟩
  unfold b_ring_state
  have fl : LS.flatten.length = n := by rw [h1.perm.length_eq, nsI_len]
  refine sq_ ?_
  rfl'
  refine sqa_ fun D hD => ?_
  rfl'
  refine ⟨rfl, ?_⟩
  refine rs_loopP LS [] _ (by rw [fl]; show 0 + _ ≤ _; omega) fun y => hD _ ?_
  rfl'
  refine ⟨LS.flatMap prL, rfl, by rw [flat_lenP]; omega, fun qs hp pw => ?_⟩
  rw [pairs_state h1 hp pw]
  rfl'
  exact q
theorem head_itr {ns : List Int} (h : Stt ns) {z : Int} (hz : Per ns z) : ∀ m, Per ns (itr ns z m) ∧ headF ns (itr ns z m) = headF ns z
  | 0 => ⟨hz, rfl⟩
  | m + 1 => by
    obtain ⟨a, b⟩ := head_itr h hz m
    show Per ns (gt ns (itr ns z m)) ∧ headF ns (gt ns (itr ns z m)) = _
    exact ⟨h.gt a, by rw [head_gt h a, b]⟩
/-- everybody of one component meets -/
theorem head_meet {ns : List Int} (h : Stt ns) {x y : Int} (hx : Per ns x) (hy : Per ns y) (e : headF ns x = headF ns y) : ∃ s t, itr ns x s = itr ns y t := by
  have r := (head_iff h.lo hx.1 hx.2 hy.1 hy.2).mp e
  have at_ : ∀ x, Per ns x → ∀ z ∈ ringF ns x, ∃ s, itr ns x s = z := fun x hx z hz => by
    obtain ⟨c, cy, em, _⟩ := ringF_cyc h.lo hx.1 hx.2
    rw [em, mem_turnF] at hz
    obtain ⟨i, _, rfl⟩ := itrs_mem.mp hz
    exact ⟨heightF ns x + i, itr_add ..⟩
  have ne := ring_ne h hx
  obtain ⟨z, hz⟩ := List.exists_mem_of_ne_nil _ ne
  obtain ⟨s, es⟩ := at_ x hx z hz
  obtain ⟨t, et⟩ := at_ y hy z (by rw [← r]; exact hz)
  exact ⟨s, t, es.trans et.symm⟩
/-- the ring where a component ends -/
theorem end_cyc {ns : List Int} (h : Stt ns) {x : Int} (hx : Per ns x) : ∃ a c, Per ns a ∧ Cyc ns a c ∧ headF ns a = headF ns x ∧ ∃ s, itr ns x s = a := by
  obtain ⟨c, cy, _, _⟩ := ringF_cyc h.lo hx.1 hx.2
  have := head_itr h hx (heightF ns x)
  exact ⟨_, c, this.1, cy, this.2, _, rfl⟩
theorem lead_comp {rs ns : List Int} (h : Stt rs) (k : Stt ns) (l : ns.length = rs.length) (L : Lead rs ns) {x y : Int} (hx : Per rs x) (hy : Per rs y) : headF ns x = headF ns y ↔ headF rs x = headF rs y := by
  have pm : ∀ {p}, Per rs p → Per ns p := fun {p} q => ⟨q.1, by rw [l]; exact q.2⟩
  have mp : ∀ {p}, Per ns p → Per rs p := fun {p} q => ⟨q.1, by rw [← l]; exact q.2⟩
  have go : ∀ x, Per rs x → ∀ s, headF rs (itr ns x s) = headF rs x := fun x hx s => by
    induction s with
    | zero => rfl
    | succ s ih =>
      have p := mp (head_itr k (pm hx) s).1
      obtain ⟨m, _, e⟩ := L.ways _ p
      show headF rs (gt ns (itr ns x s)) = _
      rw [e, (head_itr h p m).2, ih]
  constructor
  · intro e
    obtain ⟨s, t, q⟩ := head_meet k (pm hx) (pm hy) e
    rw [← go x hx s, ← go y hy t, q]
  · intro e
    obtain ⟨a, c, pa, ca, ha, s, ea⟩ := end_cyc k (pm hx)
    obtain ⟨b, d, pb, cb, hb, t, eb⟩ := end_cyc k (pm hy)
    have e2 : headF rs a = headF rs b := by rw [← ea, ← eb, go x hx s, go y hy t, e]
    obtain ⟨i, hi, ei⟩ := itrs_mem.mp (L.one a b c d (mp pa) (mp pb) ca cb (head_meet h (mp pa) (mp pb) e2))
    rw [← ha, ← hb, ← ei, (head_itr k pa i).2]
theorem lap_lead {rs ns : List Int} (h : Stt rs) (k : Stt ns) (l : ns.length = rs.length)
    (H : ∀ p, Per ns p → ∃ L s c, L.Nodup ∧ (∀ x, x ∈ L ↔ x ∈ compF ns p) ∧ (∀ i, i < L.length → gt rs (L.getD i 0) = L.getD ((i + 1) % L.length) 0) ∧ Cyc ns s c ∧ (itrs ns s c).Sublist L) : Lead rs ns := by
  have pm : ∀ {p}, Per rs p → Per ns p := fun {p} q => ⟨q.1, by rw [l]; exact q.2⟩
  have mp : ∀ {p}, Per ns p → Per rs p := fun {p} q => ⟨q.1, by rw [← l]; exact q.2⟩
  -- the ring of the lap at any of its people
  have K : ∀ p, Per ns p → ∀ x, x ∈ compF ns p → ∃ d, Cyc rs x d ∧ ∀ z, z ∈ itrs rs x d ↔ z ∈ compF ns p := fun p hp x hx => by
    obtain ⟨L, s, c, nd, mem, nx, cs, sub⟩ := H p hp
    obtain ⟨i, hi, e⟩ := List.mem_iff_getElem.mp ((mem x).mpr hx)
    have e : L.getD i 0 = x := by rw [List.getD_eq_getElem?_getD, List.getElem?_eq_getElem hi]; exact e
    obtain ⟨cy, it⟩ := kept_cyc nd (List.ne_nil_of_mem ((mem x).mpr hx)) nx hi
    rw [e] at cy it
    refine ⟨_, cy, fun z => ?_⟩
    rw [it, ← mem, List.mem_append, ← List.mem_append, show (z ∈ L.drop i ++ L.take i) = (z ∈ L) from propext ((List.perm_append_comm.trans (by rw [List.take_append_drop])).mem_iff)]
  refine ⟨fun x hx => ?_, fun x y c c' hx hy cx cy ⟨s, t, e⟩ => ?_, fun x c d hx cx dx => ?_⟩
  · have px := pm hx
    obtain ⟨d, cy, it⟩ := K x px x (comp_self px)
    obtain ⟨i, hi, e⟩ := itrs_mem.mp ((it (gt ns x)).mpr (comp_mem.mpr ⟨k.gt px, head_gt k px⟩))
    by_cases z : i = 0
    · subst z
      exact ⟨d, cy.1, by rw [cy.2.1]; exact e.symm⟩
    · exact ⟨i, by omega, e.symm⟩
  · have px := pm hx
    have py := pm hy
    obtain ⟨d1, c1, i1⟩ := K x px x (comp_self px)
    obtain ⟨d2, c2, i2⟩ := K y py y (comp_self py)
    have m1 := comp_mem.mp ((i1 _).mp (c1.all s))
    have m2 := comp_mem.mp ((i2 _).mp (c2.all t))
    have hd : headF ns x = headF ns y := by rw [← m1.2, e, m2.2]
    have r := (head_iff k.lo px.1 px.2 py.1 py.2).mp hd
    have my : y ∈ ringF ns x := by
      rw [r]; exact (on_iff k py).mpr ⟨c', cy⟩
    rw [cyc_ring k px cx, mem_turnF] at my
    exact my
  · have px := pm hx
    obtain ⟨L, s, c0, nd, mem, nx, cs, sub⟩ := H x px
    obtain ⟨i, hi, e⟩ := List.mem_iff_getElem.mp ((mem x).mpr (comp_self px))
    have e0 : L.getD i 0 = x := by rw [List.getD_eq_getElem?_getD, List.getElem?_eq_getElem hi]; exact e
    obtain ⟨cy, it⟩ := kept_cyc nd (List.ne_nil_of_mem ((mem x).mpr (comp_self px))) nx hi
    rw [e0] at cy it
    have hs := comp_mem.mp ((mem s).mp (sub.subset (itrs_mem.mpr ⟨0, cs.1, rfl⟩)))
    have r := (head_iff k.lo hs.1.1 hs.1.2 px.1 px.2).mp hs.2
    have mx : x ∈ itrs ns s c0 := by
      have : x ∈ ringF ns s := by rw [r]; exact (on_iff k px).mpr ⟨c, cx⟩
      rw [cyc_ring k hs.1 cs, mem_turnF] at this
      exact this
    obtain ⟨j, hj, ej⟩ := itrs_mem.mp mx
    have ec : c = c0 := cx.uniq (cs.at mx).1
    have ed : d = L.length := dx.uniq cy
    have gj : (itrs ns s c0).getD j 0 = x := by rw [List.getD_eq_getElem?_getD, itrs_get hj]; exact ej
    have jl : j < (itrs ns s c0).length := by rw [itrs_len]; exact hj
    have st := sub_turn nd sub j jl
    rw [gj] at st
    have ix : L.idxOf x = i := by rw [← e]; exact nd.idxOf_getElem i hi
    rw [ix] at st
    have t1 : itrs ns x c = (itrs ns s c0).drop j ++ (itrs ns s c0).take j := by
      rw [ec, ← ej]; exact cs.turn (Nat.le_of_lt hj)
    have d1 : (itrs ns s c0).drop j = x :: (itrs ns s c0).drop (j + 1) := by
      rw [List.drop_eq_getElem_cons jl]
      congr 1
      rw [← gj, List.getD_eq_getElem?_getD, List.getElem?_eq_getElem jl]; rfl
    have d2 : L.drop i = x :: L.drop (i + 1) := by rw [List.drop_eq_getElem_cons hi, e]
    rw [t1, ed, it, d1, d2]
    exact st.cons_cons x
end Lp

namespace Lp
open PySem PySem.Spec PyProof.Rows L2
local macro_rules | `(tactic| rfl') => `(tactic| try dsimp only [dVar_, gv_sh, gv_ow, gv_bx, gv_raw, gv_exn, gv_st, dC, dRaw, dOp, dUn, dTest, dTruth, dAnd, dOr, dNot, dYes, dIf, dAndV, dOrV, dNotV, dNotT, dChain, dNil, dCons, dTup, dLst, dats, dCB, dNoP, dPart, dSl, dNext, dBreak, dCont, dNever, dDrop, dRet, dRetN, dIfS, dSetG, dPar, dPar3, dAppend, dAppPop, dSetIx, dExt, dAug, dSet0, dSAdd, dSNotIn, dIter_, gi_l, gi_t, gi_b, dRng1, dRng2, dName, dGNil, dGCons, dGTup, dAsg, dFor, dWhile, dCall, dCallR, dArgs_, ga_f, ga_t, argsOf, dLc, wipeE, dListRg, dIndex, dSortSet, dSortSc, dEnum, dEnA, dZip, dIsi, dIsi2, isaT, φI, φB, φC, φNeg, add_i, add_l, add_t, mul_i, mul_l, φIx, sl_l, sl_t, eq_i, eq_s, eq_l, eq_t, eq_b, eq_n, φIsN, isN_n, isN_b, isN_i, isN_s, isN_l, isN_t, φLen, φList, φTuple, φAbs, φInt, φMax, φIsB, φIsNB, its_l, its_t, rd_sh, rd_nw, rd_br, rp_sh, rp_nw, rp_br, rp_bx, rp_raw, rp_sr, rr_sh, rr_nw, rr_br, ra_sh, ra_br, ra_bx, ra_raw, va_sh, va_nt, va_nf, va_raw, hb_n, hb_sh, hb_bx, hb_raw, hb_br, sh_n, sh_c, tr_n, tr_b, tr_i, tr_l, tr_t, ty_n, ty_b, ty_i, ty_s, ty_l, ty_t, if_ff, if_tt, Env.set, List.getElem?_cons_succ, List.getElem?_cons_zero, List.set_cons_succ, List.set_cons_zero, List.reverse_cons, List.reverse_nil, List.nil_append, List.cons_append, Option.bind_some, ite_true, ite_false, dCallX, dArgsX_, gx_s, dRaise, dIsX, dAttr, dIsNE, dListZip, dST0, dSTAdd, dSTIn, dDc, gv_sto, dPub, gv_dco, gv_dsh, dDIn, dDGet, dSortD, dDisp1, dDNew, dDPut, va_dt, va_df, va_ds, rr_dn, rr_db, rr_ds, rw_dn, rw_db, rw_ds])
def mgF (o : List Int) : List Int → List Int → List Int
  | [], w => w
  | p :: ps, w => if p ∈ w then w.take (w.idxOf p + 1) ++ mgF o ps (w.drop (w.idxOf p + 1)) else if p ∈ o then mgF o ps w else p :: mgF o ps w
theorem cut_at {w : List Int} {p : Int} (h : p ∈ w) : ∃ X Y, w = X ++ p :: Y ∧ p ∉ X ∧ w.take (w.idxOf p + 1) = X ++ [p] ∧ w.drop (w.idxOf p + 1) = Y := by
  obtain ⟨X, Y, e, nx⟩ := mid_of h
  have ix : w.idxOf p = X.length := by
    rw [e, List.idxOf_append, if_neg nx, List.idxOf_cons_self]; omega
  refine ⟨X, Y, e, nx, ?_, ?_⟩
  · rw [ix, e, show X ++ p :: Y = (X ++ [p]) ++ Y by simp, List.take_left' (by simp)]
  · rw [ix, e, show X ++ p :: Y = (X ++ [p]) ++ Y by simp, List.drop_left' (by simp)]
theorem mg_mem {o : List Int} {x : Int} : ∀ (ps w : List Int), (∀ z ∈ w, z ∈ o) → (x ∈ mgF o ps w ↔ x ∈ w ∨ (x ∈ ps ∧ x ∉ o))
  | [], w, _ => by unfold mgF; simp
  | p :: ps, w, h => by
    unfold mgF
    by_cases q : p ∈ w
    · rw [if_pos q, List.mem_append, mg_mem ps _ fun z hz => h z (List.mem_of_mem_drop hz)]
      obtain ⟨X, Y, e, nx, e1, e2⟩ := cut_at q
      rw [e1, e2]
      have hp := h p q
      rw [e]
      simp only [List.mem_append, List.mem_cons, List.not_mem_nil, or_false]
      constructor
      · rintro ((a | a) | (a | a))
        · exact .inl (.inl a)
        · exact .inl (.inr (.inl a))
        · exact .inl (.inr (.inr a))
        · exact .inr ⟨.inr a.1, a.2⟩
      · rintro ((a | a | a) | ⟨a | a, b⟩)
        · exact .inl (.inl a)
        · exact .inl (.inr a)
        · exact .inr (.inl a)
        · rw [a] at b; exact absurd hp b
        · exact .inr (.inr ⟨a, b⟩)
    · rw [if_neg q]
      by_cases r : p ∈ o
      · rw [if_pos r, mg_mem ps w h, List.mem_cons]
        constructor
        · rintro (a | a)
          · exact .inl a
          · exact .inr ⟨.inr a.1, a.2⟩
        · rintro (a | ⟨a | a, b⟩)
          · exact .inl a
          · rw [a] at b; exact absurd r b
          · exact .inr ⟨a, b⟩
      · rw [if_neg r, List.mem_cons, mg_mem ps w h, List.mem_cons]
        constructor
        · rintro (a | a | a)
          · exact .inr ⟨.inl a, by rw [a]; exact r⟩
          · exact .inl a
          · exact .inr ⟨.inr a.1, a.2⟩
        · rintro (a | ⟨a | a, b⟩)
          · exact .inr (.inl a)
          · exact .inl a
          · exact .inr (.inr ⟨a, b⟩)
theorem mg_nodup {o : List Int} : ∀ (ps w : List Int), (∀ z ∈ w, z ∈ o) → ps.Nodup → w.Nodup → (mgF o ps w).Nodup
  | [], w, _, _, n => n
  | p :: ps, w, h, np, n => by
    have n2 := List.nodup_cons.mp np
    unfold mgF
    by_cases q : p ∈ w
    · rw [if_pos q]
      have sub : ∀ z ∈ w.drop (w.idxOf p + 1), z ∈ o := fun z hz => h z (List.mem_of_mem_drop hz)
      refine List.nodup_append.mpr ⟨n.sublist (List.take_sublist _ _), mg_nodup ps _ sub n2.2 (n.sublist (List.drop_sublist _ _)), fun a ha b hb e => ?_⟩
      subst e
      rcases (mg_mem ps _ sub).mp hb with z | z
      · have n3 := n
        rw [← List.take_append_drop (w.idxOf p + 1) w] at n3
        exact (List.nodup_append.mp n3).2.2 a ha a z rfl
      · exact z.2 (h a (List.mem_of_mem_take ha))
    · rw [if_neg q]
      by_cases r : p ∈ o
      · rw [if_pos r]; exact mg_nodup ps w h n2.2 n
      · rw [if_neg r]
        refine List.nodup_cons.mpr ⟨fun z => ?_, mg_nodup ps w h n2.2 n⟩
        rcases (mg_mem ps w h).mp z with a | a
        · exact q a
        · exact n2.1 a.1
theorem mg_right {o : List Int} : ∀ (ps w : List Int), w.Sublist (mgF o ps w)
  | [], w => List.Sublist.refl _
  | p :: ps, w => by
    unfold mgF
    by_cases q : p ∈ w
    · rw [if_pos q]
      have a := (List.Sublist.refl (w.take (w.idxOf p + 1))).append (mg_right (o := o) ps (w.drop (w.idxOf p + 1)))
      rw [List.take_append_drop] at a
      exact a
    · rw [if_neg q]
      by_cases r : p ∈ o
      · rw [if_pos r]; exact mg_right ps w
      · rw [if_neg r]; exact (mg_right ps w).cons p
theorem sub_after {w K : List Int} {p : Int} (n : w.Nodup) (h : (p :: K).Sublist w) : K.Sublist (w.drop (w.idxOf p + 1)) := by
  induction w with
  | nil => cases h
  | cons x w ih =>
    have n2 := List.nodup_cons.mp n
    cases h with
    | cons _ h =>
      have ne : x ≠ p := fun e => n2.1 (by rw [e]; exact h.subset List.mem_cons_self)
      rw [idx_neB ne]
      exact ih n2.2 h
    | cons_cons _ h =>
      rw [List.idxOf_cons_self]
      exact h
theorem mg_left {o : List Int} : ∀ (ps w : List Int), (∀ z ∈ w, z ∈ o) → w.Nodup → (ps.filter fun z => decide (z ∈ o)).Sublist w → ps.Sublist (mgF o ps w)
  | [], w, _, _, _ => List.nil_sublist _
  | p :: ps, w, h, n, s => by
    unfold mgF
    by_cases q : p ∈ w
    · rw [if_pos q]
      rw [List.filter_cons_of_pos (p := fun z => decide (z ∈ o)) (decide_eq_true (h p q))] at s
      obtain ⟨X, Y, e, nx, e1, e2⟩ := cut_at q
      have ih := mg_left (o := o) ps (w.drop (w.idxOf p + 1)) (fun z hz => h z (List.mem_of_mem_drop hz)) (n.sublist (List.drop_sublist _ _)) (sub_after n s)
      rw [e1, List.append_assoc]
      exact ((ih.cons_cons p)).trans (List.sublist_append_right X _)
    · rw [if_neg q]
      by_cases r : p ∈ o
      · rw [List.filter_cons_of_pos (p := fun z => decide (z ∈ o)) (decide_eq_true r)] at s
        exact absurd (s.subset List.mem_cons_self) q
      · rw [if_neg r]
        rw [List.filter_cons_of_neg (p := fun z => decide (z ∈ o)) (by show ¬ decide (p ∈ o) = true; rw [decide_eq_false r]; exact fun z => nomatch z)] at s
        exact (mg_left ps w h n s).cons_cons p
/-- merged: one_ring, other_ring, waiting, members, person -/
def b_merged : DTS := (dSeq (dSetG true 2 (dCB φList (dCons (dVar 1) dNil)))
  (dSeq (dSetG true 3 (dLst dNil))
  (dSeq (dFor (dIter (dVar 0)) (dName 4) (dSeq (dWhile (dTest (dOp (φIn false) (dVar 4) (dVar 2))) (dAppPop 3 2 (dC (.int 0))))
  (dIfS (dTest (dOp (φIn true) (dVar 4) (dVar 1))) (dAppend 3 (dVar 4)) dNext)))
  (dRet (dOp φAdd (dVar 3) (dVar 2))))))
abbrev k_merged : Nat := 3
def p_merged : DSp := fun args c Q => ∃ (ps o : List Int), args = [.sh (.tuple (dI ps)), .sh (.tuple (dI o))] ∧ o.Nodup ∧ ps.length ≤ 1000 ∧ o.length ≤ 1000 ∧ Q (.nw (dI (mgF o ps o))) c
theorem mon_merged : MonF p_merged := fun args c A B h ⟨ps, o, e, h1, h2, h3, q⟩ => ⟨ps, o, e, h1, h2, h3, h _ _ q⟩
theorem mg_while {s0 s1 : SV} {p : Int} {Δ : DEnds} {c : Nat} : ∀ (w ms : List Int), w.Nodup → w.length + ms.length ≤ 5000 →
    (Δ.nx ⟨[s0, s1, .ow (dI (if p ∈ w then w.drop (w.idxOf p + 1) else w)), .ow (dI (if p ∈ w then ms ++ w.take (w.idxOf p + 1) else ms)), .sh (.int p)], c⟩) →
    whileN (dTest (dOp (φIn false) (dVar 4) (dVar 2))) (dAppPop 3 2 (dC (.int 0))) Δ (w.length + 1) ⟨[s0, s1, .ow (dI w), .ow (dI ms), .sh (.int p)], c⟩
  | [], ms, _, le, q => by
    rw [if_neg (fun z => nomatch z), if_neg (fun z => nomatch z)] at q
    unfold whileN
    rfl'
    refine φIn_dI (its_l _) ?_
    rfl'
    refine if_f (by simp) ?_
    exact q
  | x :: w, ms, n, le, q => by
    have n2 := List.nodup_cons.mp n
    unfold whileN
    rfl'
    refine φIn_dI (its_l _) ?_
    rfl'
    refine it_2 (fun h => ?_) fun h => ?_
    · rw [List.length_cons] at le
      refine ⟨by decide, by show (0 : Int) < ((dI (x :: w)).length : Nat); rw [dI_len, List.length_cons]; omega, by rw [dI_len, List.length_cons]; omega, show _ < 16777216 by rw [dI_len]; omega, .int x, rfl, ?_⟩
      rw [show dI ms ++ [PyData.int x] = dI (ms ++ [x]) by unfold dI; rw [List.map_append]; rfl]
      show whileN _ _ _ (w.length + 1) ⟨[s0, s1, .ow (dI w), .ow (dI (ms ++ [x])), .sh (.int p)], c⟩
      refine mg_while w (ms ++ [x]) n2.2 (by rw [List.length_append, List.length_singleton]; omega) ?_
      rw [if_pos h, if_pos h] at q
      by_cases e : x = p
      · subst e
        rw [List.idxOf_cons_self] at q
        rw [if_neg n2.1, if_neg n2.1]
        exact q
      · have hw : p ∈ w := (List.mem_cons.mp h).resolve_left (Ne.symm e)
        rw [idx_neB e] at q
        rw [if_pos hw, if_pos hw]
        have e3 : ms ++ [x] ++ w.take (w.idxOf p + 1) = ms ++ (x :: w).take (w.idxOf p + 1 + 1) := by
          rw [List.take_succ_cons, List.append_assoc]; rfl
        rw [e3]
        exact q
    · rw [if_neg h, if_neg h] at q
      exact q
theorem mg_loop {ps0 o : List Int} {Δ : DEnds} {c : Nat} : ∀ (ps w ms : List Int) (y : SV), (∀ z ∈ w, z ∈ o) → w.Nodup → w.length + ms.length + ps.length ≤ 2500 → w.length ≤ 1000 →
    (∀ w' ms' y, ms' ++ w' = ms ++ mgF o ps w → Δ.nx ⟨[.sh (.tuple (dI ps0)), .sh (.tuple (dI o)), .ow (dI w'), .ow (dI ms'), y], c⟩) →
    forD (dName 4) (dSeq (dWhile (dTest (dOp (φIn false) (dVar 4) (dVar 2))) (dAppPop 3 2 (dC (.int 0))))
  (dIfS (dTest (dOp (φIn true) (dVar 4) (dVar 1))) (dAppend 3 (dVar 4)) dNext)) Δ (dI ps) ⟨[.sh (.tuple (dI ps0)), .sh (.tuple (dI o)), .ow (dI w), .ow (dI ms), y], c⟩
  | [], w, ms, y, _, _, _, _, q => by unfold mgF at q; exact q w ms y rfl
  | p :: ps, w, ms, y, hs, n, le, l2, q => by
    show forD _ _ _ (.int p :: dI ps) _
    rw [List.length_cons] at le
    refine for_cons ?_
    rfl'
    refine sq_ ?_
    rfl'
    refine ⟨w.length + 1, ?_⟩
    refine mg_while w ms n (by omega) ?_
    rfl'
    unfold mgF at q
    refine φIn_dI (its_t _) ?_
    rfl'
    by_cases h : p ∈ w
    · rw [if_pos h, if_pos h]
      rw [if_pos h] at q
      have ldt : (w.drop (w.idxOf p + 1)).length + (w.take (w.idxOf p + 1)).length = w.length := by
        rw [List.length_drop, List.length_take]; omega
      rw [decide_eq_true (hs p h)]
      refine if_f (by decide) ?_
      exact mg_loop (ps0 := ps0) (o := o) (Δ := Δ) (c := c) ps (w.drop (w.idxOf p + 1)) (ms ++ w.take (w.idxOf p + 1)) (.sh (.int p)) (fun z hz => hs z (List.mem_of_mem_drop hz)) (n.sublist (List.drop_sublist _ _)) (by rw [List.length_append]; omega) (by omega) fun w' ms' y e => q w' ms' y (by rw [e, List.append_assoc])
    · rw [if_neg h, if_neg h]
      rw [if_neg h] at q
      by_cases r : p ∈ o
      · rw [decide_eq_true r]
        rw [if_pos r] at q
        refine if_f (by decide) ?_
        exact mg_loop ps w ms _ hs n (by omega) l2 q
      · rw [decide_eq_false r]
        rw [if_neg r] at q
        refine if_t rfl ?_
        rfl'
        refine ⟨show _ < 16777216 by rw [dI_len]; omega, ?_⟩
        rw [show dI ms ++ [PyData.int p] = dI (ms ++ [p]) by unfold dI; rw [List.map_append]; rfl]
        refine mg_loop ps w (ms ++ [p]) _ hs n (by rw [List.length_append, List.length_singleton]; omega) l2 fun w' ms' y e => q w' ms' y ?_
        rw [e, List.append_assoc]; rfl
theorem m_merged : ∀ args c Q, p_merged args c Q → defF k_merged b_merged args c Q := by
  rintro _ c Q ⟨ps, o, rfl, h1, h2, h3, q⟩
  show b_merged _ ⟨[.sh (.tuple (dI ps)), .sh (.tuple (dI o)), .un, .un, .un], c⟩
  unfold b_merged
  refine sq_ ?_
  rfl'
  refine sq_ ?_
  rfl'
  refine sqa_ fun D hD => ?_
  rfl'
  refine ⟨rfl, ?_⟩
  refine mg_loop ps o [] _ (fun z hz => hz) h1 (by show _ + 0 + _ ≤ _; omega) h3 fun w' ms' y e => hD _ ?_
  rfl'
  have le : ms'.length + w'.length ≤ 10000 := by
    rw [← List.length_append, e, List.nil_append]
    have key : ∀ (ps w : List Int), (mgF o ps w).length ≤ ps.length + w.length := by
      intro ps
      induction ps with
      | nil => intro w; unfold mgF; omega
      | cons p ps ih =>
        intro w
        unfold mgF
        rw [List.length_cons]
        by_cases q : p ∈ w
        · rw [if_pos q, List.length_append]
          have := ih (w.drop (w.idxOf p + 1))
          rw [List.length_drop] at this
          rw [List.length_take]
          omega
        · rw [if_neg q]
          by_cases r : p ∈ o
          · rw [if_pos r]; have := ih w; omega
          · rw [if_neg r, List.length_cons]; have := ih w; omega
    have := key ps o
    omega
  refine ⟨show _ ≤ 16777216 by rw [dI_len, dI_len]; omega, ?_⟩
  rw [dI_app, e, List.nil_append]
  exact q
def laF (ns ms : List Int) (g : Int) : List Int := if smT ns ms g = [] then ringF ns g else turnTo (ringF ns g) ((smT ns ms g).headD 0)
def lbF (ns ms : List Int) (g : Int) : List Int := if smT ns ms g = [] then ringF ms g else turnTo (ringF ms g) ((smT ns ms g).headD 0)
def mfF (ns ms : List Int) (g : Int) : List Int := mgF (lbF ns ms g) (laF ns ms g) (lbF ns ms g)
def clF (ns ms : List Int) (g : Int) : List Int := mfF ns ms g ++ (compF ns g).filter fun z => decide (z ∉ mfF ns ms g)
theorem smT_hd {ns ms : List Int} {g : Int} (h : smT ns ms g ≠ []) : (smT ns ms g).headD 0 ∈ smT ns ms g := by
  cases e : smT ns ms g with
  | nil => exact absurd e h
  | cons x r => exact List.mem_cons_self
theorem ringN {ns : List Int} (h : Stt ns) {g : Int} (hg : Per ns g) : (ringF ns g).Nodup := by
  obtain ⟨c, er, cy, _, _⟩ := headF_form h.lo hg.1 hg.2
  rw [er]; exact cy.2.2
theorem la_facts {ns ms : List Int} (h : Stt ns) {g : Int} (hg : Per ns g) : (laF ns ms g).Nodup ∧ (∀ z, z ∈ laF ns ms g ↔ z ∈ ringF ns g) ∧ (laF ns ms g).length = (ringF ns g).length := by
  unfold laF
  by_cases e : smT ns ms g = []
  · rw [if_pos e]; exact ⟨ringN h hg, fun _ => Iff.rfl, rfl⟩
  · rw [if_neg e]; exact ⟨turnTo_nodup (ringN h hg), fun z => mem_turnTo, turnTo_len _ _⟩
theorem lb_facts {ns ms : List Int} (h : Stt ms) {g : Int} (hg : Per ms g) : (lbF ns ms g).Nodup ∧ (∀ z, z ∈ lbF ns ms g ↔ z ∈ ringF ms g) ∧ (lbF ns ms g).length = (ringF ms g).length := by
  unfold lbF
  by_cases e : smT ns ms g = []
  · rw [if_pos e]; exact ⟨ringN h hg, fun _ => Iff.rfl, rfl⟩
  · rw [if_neg e]; exact ⟨turnTo_nodup (ringN h hg), fun z => mem_turnTo, turnTo_len _ _⟩
theorem ring_comp {ns : List Int} (h : Stt ns) {g z : Int} (hg : Per ns g) (hz : z ∈ ringF ns g) : z ∈ compF ns g := by
  obtain ⟨a, b, _⟩ := ring_per h hg hz
  exact comp_mem.mpr ⟨a, (head_iff h.lo a.1 a.2 hg.1 hg.2).mpr b⟩
theorem cl_facts {ns ms : List Int} (h : Stt ns) (k : Stt ms) (l : ms.length = ns.length) (ap : apF ns ms = none) {g : Int} (hg : Per ns g) : (clF ns ms g).Nodup ∧ ∀ z, z ∈ clF ns ms g ↔ z ∈ compF ns g := by
  have pg : Per ms g := ⟨hg.1, by rw [l]; exact hg.2⟩
  obtain ⟨a1, a2, _⟩ := la_facts (ms := ms) h hg
  obtain ⟨b1, b2, _⟩ := lb_facts (ns := ns) k pg
  have mm : ∀ z, z ∈ mfF ns ms g → z ∈ compF ns g := fun z hz => by
    rcases (mg_mem _ _ fun z hz => hz).mp hz with e | e
    · rw [same_comp ap hg]; exact ring_comp k pg ((b2 z).mp e)
    · exact ring_comp h hg ((a2 z).mp e.1)
  refine ⟨List.nodup_append.mpr ⟨mg_nodup _ _ (fun z hz => hz) a1 b1, ((comp_ascB ns g).imp fun {a b} l e => by omega).sublist List.filter_sublist, fun a ha b hb e => ?_⟩, fun z => ?_⟩
  · subst e
    exact of_decide_eq_true (List.mem_filter.mp hb).2 ha
  · unfold clF
    rw [List.mem_append, List.mem_filter]
    constructor
    · rintro (e | e)
      · exact mm z e
      · exact e.1
    · intro e
      by_cases q : z ∈ mfF ns ms g
      · exact .inl q
      · exact .inr ⟨e, decide_eq_true q⟩
/-- common_lap: one, other, group, one_ring, other_ring, shared, members, person -/
def b_common_lap : DTS := (dSeq (dSetG false 3 (dCall p_ring_of (dCons (dVar 0) (dCons (dOp φIx (dVar 2) (dC (.int 0))) dNil))))
  (dSeq (dSetG false 4 (dCall p_ring_of (dCons (dVar 1) (dCons (dOp φIx (dVar 2) (dC (.int 0))) dNil))))
  (dSeq (dSetG false 5 (dCall p_shared_members (dCons (dVar 0) (dCons (dVar 1) (dCons (dOp φIx (dVar 2) (dC (.int 0))) dNil)))))
  (dSeq (dIfS (dTruth (dVar 5)) (dSeq (dSetG false 3 (dCall p_turned (dCons (dVar 3) (dCons (dOp φIx (dVar 5) (dC (.int 0))) dNil))))
  (dSetG false 4 (dCall p_turned (dCons (dVar 4) (dCons (dOp φIx (dVar 5) (dC (.int 0))) dNil))))) dNext)
  (dSeq (dSetG false 6 (dCall p_merged (dCons (dVar 3) (dCons (dVar 4) dNil))))
  (dRet (dOp φAdd (dVar 6) (dLc (dIter (dVar 2)) (dName 7) (dTest (dOp (φIn true) (dVar 7) (dVar 6))) (dVar 7) [7]))))))))
abbrev k_common_lap : Nat := 5
def p_common_lap : DSp := fun args c Q => ∃ (d e : PyData) (ns ms : List Int) (g : Int), args = [.sh d, .sh e, .sh (.tuple (dI (compF ns g)))] ∧ PyData.its d = some (dI ns) ∧ PyData.its e = some (dI ms) ∧ Stt ns ∧ Stt ms ∧ ms.length = ns.length ∧ ns.length ≤ 60 ∧ Per ns g ∧ (compF ns g).headD 0 = g ∧ Q (.nw (dI (clF ns ms g))) c
theorem mon_common_lap : MonF p_common_lap := fun args c A B h ⟨d, e, ns, ms, g, ea, h1, h2, h3, h4, h5, h6, h7, h8, q⟩ => ⟨d, e, ns, ms, g, ea, h1, h2, h3, h4, h5, h6, h7, h8, h _ _ q⟩
abbrev clapT : DTS := (dSeq (dSetG false 6 (dCall p_merged (dCons (dVar 3) (dCons (dVar 4) dNil))))
  (dRet (dOp φAdd (dVar 6) (dLc (dIter (dVar 2)) (dName 7) (dTest (dOp (φIn true) (dVar 7) (dVar 6))) (dVar 7) [7]))))
theorem cl_tail {d e s5 : SV} {ns ms : List Int} {g : Int} {Q : R → Nat → Prop} {c : Nat} (h3 : Stt ns) (h4 : Stt ms) (h5 : ms.length = ns.length) (h6 : ns.length ≤ 60) (h7 : Per ns g) (q : Q (.nw (dI (clF ns ms g))) c) : clapT { nx := fun ε => Q (.sh .none) ε.c, rt := fun r ε => Q r ε.c } ⟨[d, e, .sh (.tuple (dI (compF ns g))), .sh (.tuple (dI (laF ns ms g))), .sh (.tuple (dI (lbF ns ms g))), s5, .un, .un], c⟩ := by
  have pg : Per ms g := ⟨h7.1, by rw [h5]; exact h7.2⟩
  obtain ⟨a1, a2, a3⟩ := la_facts (ms := ms) h3 h7
  obtain ⟨b1, b2, b3⟩ := lb_facts (ns := ns) h4 pg
  have r1 := ring_le h3 h7
  have r2 := ring_le h4 pg
  have cl := comp_len ns g
  unfold clapT
  refine sq_ ?_
  rfl'
  refine ⟨_, _, rfl, b1, by omega, by omega, ?_⟩
  rfl'
  refine lc_if (fun z : Int => .int z) (fun z : Int => .int z) (fun z => decide (z ∉ mfF ns ms g)) (compF ns g) [] (fun z hz Y N hY hN => ?_) (by show 0 + _ ≤ _; omega) ?_
  · rfl'
    refine φIn_dI (its_l _) ?_
    rfl'
    show if (!decide (z ∈ mfF ns ms g)) = true then _ else _
    by_cases m : z ∈ mfF ns ms g
    · rw [decide_eq_true m]
      refine if_f (by decide) ?_
      exact hN (decide_eq_false fun y => y m) _ rfl
    · rw [decide_eq_false m]
      refine if_t rfl ?_
      exact hY (decide_eq_true m) _ _ rfl rfl
  rw [List.nil_append, show ((compF ns g).filter fun z => decide (z ∉ mfF ns ms g)).map (fun z : Int => PyData.int z) = dI ((compF ns g).filter fun z => decide (z ∉ mfF ns ms g)) from rfl]
  rfl'
  have ml : (mfF ns ms g).length ≤ 1000 := by
    have nd : (mfF ns ms g).Nodup := mg_nodup _ _ (fun z hz => hz) a1 b1
    have := low_len ns.length (mfF ns ms g) nd fun z hz => by
      rcases (mg_mem _ _ fun z hz => hz).mp hz with e | e
      · have := (ring_per h4 pg ((b2 z).mp e)).1
        exact ⟨this.1, by rw [← h5]; exact this.2⟩
      · exact (ring_per h3 h7 ((a2 z).mp e.1)).1
    omega
  have fl : ((compF ns g).filter fun z => decide (z ∉ mfF ns ms g)).length ≤ (compF ns g).length := List.length_filter_le _ _
  refine ⟨show (dI (mfF ns ms g)).length + (dI _).length ≤ 16777216 by rw [dI_len, dI_len]; omega, ?_⟩
  show Q (.nw (dI (mfF ns ms g) ++ dI _)) c
  rw [dI_app]
  exact q
theorem m_common_lap : ∀ args c Q, p_common_lap args c Q → defF k_common_lap b_common_lap args c Q := by
  rintro _ c Q ⟨d, e, ns, ms, g, rfl, h1, h2, h3, h4, h5, h6, h7, h8, q⟩
  show b_common_lap _ ⟨[.sh d, .sh e, .sh (.tuple (dI (compF ns g))), .un, .un, .un, .un, .un], c⟩
  unfold b_common_lap
  have pg : Per ms g := ⟨h7.1, by rw [h5]; exact h7.2⟩
  have ix : atI (dI (compF ns g)) 0 = some (.int g) := by
    cases e : compF ns g with
    | nil => exact absurd e (List.ne_nil_of_mem (comp_self h7))
    | cons x r =>
      rw [e] at h8
      have h8 : x = g := h8
      rw [← h8]
      exact atI_dI (ns := x :: r) (by decide) (by rw [List.length_cons]; omega)
  have r1 := ring_le h3 h7
  have r2 := ring_le h4 pg
  have hle := h3.le
  refine sq_ ?_
  rfl'
  refine ⟨_, ix, ?_⟩
  rfl'
  refine ⟨d, ns, g, rfl, h1, h3, h7, ?_⟩
  rfl'
  refine sq_ ?_
  rfl'
  refine ⟨_, ix, ?_⟩
  rfl'
  refine ⟨e, ms, g, rfl, h2, h4, pg, ?_⟩
  rfl'
  refine sq_ ?_
  rfl'
  refine ⟨_, ix, ?_⟩
  rfl'
  refine ⟨d, e, ns, ms, g, rfl, h1, h2, h3, h4, h5, h7, ?_⟩
  rfl'
  refine sq_ ?_
  have t := fun s5 => cl_tail (d := .sh d) (e := .sh e) (s5 := s5) h3 h4 h5 h6 h7 q
  unfold clapT laF lbF at t
  by_cases z : smT ns ms g = []
  · have t := t (.sh (.list (dI [])))
    rw [z, if_pos rfl, if_pos rfl] at t
    rw [z]
    rfl'
    refine if_f (by decide) ?_
    exact t
  · have t := t (.sh (.list (dI (smT ns ms g))))
    rw [if_neg z, if_neg z] at t
    have hd := smT_hd z
    have hm := smT_in hd
    have ne : (dI (smT ns ms g)).isEmpty = false := by
      cases e : smT ns ms g with
      | nil => exact absurd e z
      | cons x r => rfl
    have ix2 : atI (dI (smT ns ms g)) 0 = some (.int ((smT ns ms g).headD 0)) := by
      cases e : smT ns ms g with
      | nil => exact absurd e z
      | cons x r => exact atI_dI (ns := x :: r) (by decide) (by rw [List.length_cons]; omega)
    rfl'
    rw [ne]
    refine if_t rfl ?_
    refine sq_ ?_
    rfl'
    refine ⟨_, ix2, ?_⟩
    rfl'
    refine ⟨false, _, _, rfl, hm.1, by omega, ?_⟩
    rfl'
    refine ⟨_, ix2, ?_⟩
    rfl'
    refine ⟨false, _, _, rfl, hm.2, by omega, ?_⟩
    exact t
def cpF (ns ms : List Int) : List Int := (nsI ns.length).map fun p => nxL (clF ns ms ((compF ns p).headD 0)) p
def lapsC (ns ms : List Int) (CS : List (List Int)) : List (List Int) := CS.map fun G => clF ns ms (G.headD 0)
theorem comps_at {ns : List Int} {CS : List (List Int)} (hC : CompsOf ns CS) {G : List Int} (hG : G ∈ CS) : Per ns (G.headD 0) ∧ compF ns (G.headD 0) = G := by
  obtain ⟨j, hj, rfl⟩ := (hC.2.2 G).mp hG
  have m := comp_mem.mp (comp_hdB (per_nat hj))
  exact ⟨m.1, comp_sameB m.2⟩
theorem laps_cl {ns ms : List Int} (h : Stt ns) (k : Stt ms) (l : ms.length = ns.length) (ap : apF ns ms = none) {CS : List (List Int)} (hC : CompsOf ns CS) : LapsP ns.length (lapsC ns ms CS) := by
  have cf := fun (G : List Int) (hG : G ∈ CS) => cl_facts h k l ap (comps_at hC hG).1
  refine ⟨(List.perm_ext_iff_of_nodup ?_ (nsI_nodup _)).mpr fun p => ?_⟩
  · refine List.pairwise_flatten.mpr ⟨fun L hL => ?_, ?_⟩
    · obtain ⟨G, hG, rfl⟩ := List.mem_map.mp hL
      exact (cf G hG).1
    · unfold lapsC
      rw [List.pairwise_map]
      refine List.Pairwise.imp_of_mem ?_ hC.1
      intro a b ha hb ne x hx y hy e
      subst e
      have ea := comp_mem.mp (((cf a ha).2 x).mp hx)
      have eb := comp_mem.mp (((cf b hb).2 x).mp hy)
      refine ne ?_
      rw [← (comps_at hC ha).2, ← (comps_at hC hb).2]
      exact comp_sameB (ea.2.symm.trans eb.2)
  · rw [List.mem_flatten, nsI_mem]
    constructor
    · rintro ⟨L, hL, hp⟩
      obtain ⟨G, hG, rfl⟩ := List.mem_map.mp hL
      exact (comp_mem.mp (((cf G hG).2 p).mp hp)).1
    · intro hp
      have hp : Per ns p := hp
      have hG : compF ns p ∈ CS := (hC.2.2 _).mpr ⟨p.toNat, by have := hp.1; have := hp.2; omega, by rw [show ((p.toNat : Nat) : Int) = p by have := hp.1; omega]⟩
      refine ⟨_, List.mem_map.mpr ⟨_, hG, rfl⟩, ((cf _ hG).2 p).mpr ?_⟩
      rw [(comps_at hC hG).2]; exact comp_self hp
theorem rs_cp {ns ms : List Int} (h : Stt ns) (k : Stt ms) (l : ms.length = ns.length) (ap : apF ns ms = none) {CS : List (List Int)} (hC : CompsOf ns CS) : rsF ns.length (lapsC ns ms CS) = cpF ns ms := by
  have LL := laps_cl h k l ap hC
  unfold rsF cpF
  refine List.map_congr_left fun p hp => ?_
  have hp : Per ns p := nsI_mem.mp hp
  have hG : compF ns p ∈ CS := (hC.2.2 _).mpr ⟨p.toNat, by have := hp.1; have := hp.2; omega, by rw [show ((p.toNat : Nat) : Int) = p by have := hp.1; omega]⟩
  refine nx_lap LL.nd (List.mem_map.mpr ⟨_, hG, rfl⟩) (((cl_facts h k l ap (comps_at hC hG).1).2 p).mpr ?_)
  rw [(comps_at hC hG).2]; exact comp_self hp
theorem pst_none {ns ms : List Int} : pstD ns ms = .none ↔ apF ns ms = none ∧ odF ns ms = none := by
  unfold pstD
  cases apF ns ms with
  | some p => exact ⟨fun z => (nomatch z), fun z => (nomatch z.1)⟩
  | none =>
    cases e : odF ns ms with
    | some p =>
      have := List.find?_some (show (nsI ns.length).find? _ = some p from e)
      obtain ⟨x, l, q⟩ := obD_some this
      dsimp only
      rw [q]
      exact ⟨fun z => (nomatch z), fun z => (nomatch z.2)⟩
    | none => exact ⟨fun _ => ⟨rfl, rfl⟩, fun _ => rfl⟩
theorem pst_tup {ns ms : List Int} (z : pstD ns ms ≠ .none) : (∃ p : Int, pstD ns ms = .tuple [.str "people", .int p]) ∨ ∃ x y z : Int, pstD ns ms = .tuple [.str "order", .int x, .int y, .int z] := by
  cases ea : apF ns ms with
  | some p => exact .inl ⟨p, by unfold pstD; rw [ea]⟩
  | none =>
    cases e : odF ns ms with
    | some p =>
      have := List.find?_some (show (nsI ns.length).find? _ = some p from e)
      obtain ⟨x, l, q⟩ := obD_some this
      exact .inr ⟨_, x, l, by unfold pstD; rw [ea, e]; exact q⟩
    | none => exact absurd (pst_none.mpr ⟨ea, e⟩) z
abbrev cpT : DTS := (dRet (dCall p_ring_state (dCons (dLc (dIter (dCall p_components (dCons (dVar 0) dNil))) (dName 3) dYes (dCall p_common_lap (dCons (dVar 0) (dCons (dVar 1) (dCons (dVar 3) dNil)))) [3]) dNil)))
theorem cp_tail {d e : PyData} {ns ms : List Int} {s2 : SV} {Q : R → Nat → Prop} {c : Nat} (h1 : PyData.its d = some (dI ns)) (h2 : PyData.its e = some (dI ms)) (h3 : Stt ns) (h4 : Stt ms) (h5 : ms.length = ns.length) (h6 : ns.length ≤ 60) (ap : apF ns ms = none) (q : Q (.sh (.tuple (dI (cpF ns ms)))) c) : cpT { nx := fun ε => Q (.sh .none) ε.c, rt := fun r ε => Q r ε.c } ⟨[.sh d, .sh e, s2, .un], c⟩ := by
  unfold cpT
  rfl'
  refine ⟨d, ns, rfl, h1, h3, h6, fun CS hC => ?_⟩
  have few := comps_fewB h3 h6 hC
  rfl'
  refine lc_all (fun G : List Int => .tuple (dI G)) (fun G : List Int => .list (dI (clF ns ms (G.headD 0)))) CS [] (fun G hG K hK => ?_) (by show 0 + _ ≤ _; omega) ?_
  · obtain ⟨pg, eg⟩ := comps_at hC hG
    rfl'
    refine ⟨d, e, ns, ms, G.headD 0, by rw [eg], h1, h2, h3, h4, h5, h6, pg, by rw [eg], ?_⟩
    exact hK _ _ rfl rfl
  rw [List.nil_append]
  rfl'
  refine ⟨ns.length, lapsC ns ms CS, ?_, laps_cl h3 h4 h5 ap hC, h3.le, ?_⟩
  · unfold lapsC
    rw [List.map_map]; rfl
  rw [rs_cp h3 h4 h5 ap hC]
  rfl'
  exact q
/-- common_past: one, other, bar, group -/
def b_common_past : DTS := (dSeq (dSetG false 2 (dCall p_past_bar (dCons (dVar 0) (dCons (dVar 1) dNil))))
  (dSeq (dIfS (dTest (dOp (φIsN true) (dVar 2) (dC .none))) dNever dNext)
  (dRet (dCall p_ring_state (dCons (dLc (dIter (dCall p_components (dCons (dVar 0) dNil))) (dName 3) dYes (dCall p_common_lap (dCons (dVar 0) (dCons (dVar 1) (dCons (dVar 3) dNil)))) [3]) dNil)))))
abbrev k_common_past : Nat := 2
def p_common_past : DSp := fun args c Q => ∃ (d e : PyData) (ns ms : List Int), args = [.sh d, .sh e] ∧ PyData.its d = some (dI ns) ∧ PyData.its e = some (dI ms) ∧ Stt ns ∧ Stt ms ∧ ms.length = ns.length ∧ ns.length ≤ 60 ∧ pstD ns ms = .none ∧ Q (.sh (.tuple (dI (cpF ns ms)))) c
theorem mon_common_past : MonF p_common_past := fun args c A B h ⟨d, e, ns, ms, ea, h1, h2, h3, h4, h5, h6, h7, q⟩ => ⟨d, e, ns, ms, ea, h1, h2, h3, h4, h5, h6, h7, h _ _ q⟩
theorem m_common_past : ∀ args c Q, p_common_past args c Q → defF k_common_past b_common_past args c Q := by
  rintro _ c Q ⟨d, e, ns, ms, rfl, h1, h2, h3, h4, h5, h6, h7, q⟩
  show b_common_past _ ⟨[.sh d, .sh e, .un, .un], c⟩
  unfold b_common_past
  refine sq_ ?_
  rfl'
  refine ⟨d, e, ns, ms, rfl, h1, h2, h3, h4, h5, h6, ?_⟩
  rw [h7]
  rfl'
  refine sq_ ?_
  rfl'
  refine if_f (by decide) ?_
  exact cp_tail h1 h2 h3 h4 h5 h6 (pst_none.mp h7).1 q
end Lp

namespace Lp
open PySem PySem.Spec PyProof.Rows L2
local macro_rules | `(tactic| rfl') => `(tactic| try dsimp only [dVar_, gv_sh, gv_ow, gv_bx, gv_raw, gv_exn, gv_st, dC, dRaw, dOp, dUn, dTest, dTruth, dAnd, dOr, dNot, dYes, dIf, dAndV, dOrV, dNotV, dNotT, dChain, dNil, dCons, dTup, dLst, dats, dCB, dNoP, dPart, dSl, dNext, dBreak, dCont, dNever, dDrop, dRet, dRetN, dIfS, dSetG, dPar, dPar3, dAppend, dAppPop, dSetIx, dExt, dAug, dSet0, dSAdd, dSNotIn, dIter_, gi_l, gi_t, gi_b, dRng1, dRng2, dName, dGNil, dGCons, dGTup, dAsg, dFor, dWhile, dCall, dCallR, dArgs_, ga_f, ga_t, argsOf, dLc, wipeE, dListRg, dIndex, dSortSet, dSortSc, dEnum, dEnA, dZip, dIsi, dIsi2, isaT, φI, φB, φC, φNeg, add_i, add_l, add_t, mul_i, mul_l, φIx, sl_l, sl_t, eq_i, eq_s, eq_l, eq_t, eq_b, eq_n, φIsN, isN_n, isN_b, isN_i, isN_s, isN_l, isN_t, φLen, φList, φTuple, φAbs, φInt, φMax, φIsB, φIsNB, its_l, its_t, rd_sh, rd_nw, rd_br, rp_sh, rp_nw, rp_br, rp_bx, rp_raw, rp_sr, rr_sh, rr_nw, rr_br, ra_sh, ra_br, ra_bx, ra_raw, va_sh, va_nt, va_nf, va_raw, hb_n, hb_sh, hb_bx, hb_raw, hb_br, sh_n, sh_c, tr_n, tr_b, tr_i, tr_l, tr_t, ty_n, ty_b, ty_i, ty_s, ty_l, ty_t, if_ff, if_tt, Env.set, List.getElem?_cons_succ, List.getElem?_cons_zero, List.set_cons_succ, List.set_cons_zero, List.reverse_cons, List.reverse_nil, List.nil_append, List.cons_append, Option.bind_some, ite_true, ite_false])
theorem gt_map_nsI {n : Nat} {f : Int → Int} {p : Int} (h0 : 0 ≤ p) (h1 : p < (n : Int)) : gt ((nsI n).map f) p = f p := by
  have hi : p.toNat < n := by omega
  have := gt_nat (ns := (nsI n).map f) (j := p.toNat) (by rw [List.length_map, nsI_len]; exact hi)
  rw [show ((p.toNat : Nat) : Int) = p by omega] at this
  rw [this]
  unfold nsI
  rw [List.getElem_map, List.getElem_map, List.getElem_range, show ((p.toNat : Nat) : Int) = p by omega]
theorem lead_compF {rs ns : List Int} (h : Stt rs) (k : Stt ns) (l : ns.length = rs.length) (L : Lead rs ns) {p : Int} (hp : Per rs p) : compF ns p = compF rs p := by
  unfold compF compH
  rw [l]
  congr 1
  refine List.filter_congr fun i hi => ?_
  have hi := List.mem_range.mp hi
  exact decide_eq_decide.mpr (lead_comp h k l L (show Per rs (i : Int) from per_nat hi) hp)
theorem lead_ap {rs ns ms : List Int} (h : Stt rs) (k : Stt ns) (k2 : Stt ms) (l : ns.length = rs.length) (l2 : ms.length = rs.length) (L : Lead rs ns) (M : Lead rs ms) : apF ns ms = none := by
  refine List.find?_eq_none.mpr fun p hp => ?_
  rw [l] at hp
  have hp : Per rs p := nsI_mem.mp hp
  rw [lead_compF h k l L hp, lead_compF h k2 l2 M hp]
  simp
theorem lead_onP {rs ns : List Int} (h : Stt rs) (l : ns.length = rs.length) (L : Lead rs ns) {x : Int} (hx : Per rs x) {c : Nat} (cy : Cyc ns x c) : (∃ d, Cyc rs x d) ∧ ∀ z ∈ itrs ns x c, z ∈ ringF rs x := ways_on h ((ways_iff h).mpr L.ways) hx cy
/-- where a ring begins -/
theorem ring_cyc {ns : List Int} (h : Stt ns) {p z : Int} (hp : Per ns p) (hz : z ∈ ringF ns p) : ∃ c, Cyc ns z c ∧ turnTo (ringF ns p) z = itrs ns z c ∧ ∀ x, x ∈ itrs ns z c ↔ x ∈ ringF ns p := by
  obtain ⟨pz, ez, oz⟩ := ring_per h hp hz
  obtain ⟨c, cy⟩ := (on_iff h pz).mp oz
  have e := turnTo_cyc h pz cy
  rw [ez] at e
  exact ⟨c, cy, e, fun x => by rw [← e, mem_turnTo]⟩
theorem smT_turn {ns ms : List Int} {p : Int} (ne : smT ns ms p ≠ []) : smT ns ms p = (turnTo (ringF ns p) ((smT ns ms p).headD 0)).filter (fun z => decide (z ∈ ringF ms p)) := by
  have ne2 : smF ns ms p ≠ [] := fun z => ne (smT_nil.mpr z)
  obtain ⟨r, e⟩ := smT_head ne2
  have hd : (smT ns ms p).headD 0 = mnF ns ms p := by rw [e]; rfl
  rw [hd]
  have m := List.mem_filter.mp (show mnF ns ms p ∈ (ringF ns p).filter _ from (minF_ok ne2).1)
  rw [← turnTo_filter (fun z => decide (z ∈ ringF ms p)) m.1 m.2]
  unfold smT
  rw [if_neg ne2]
  rfl
/-- what one state leads to has a common past -/
theorem lead_past {rs ns ms : List Int} (h : Stt rs) (k : Stt ns) (k2 : Stt ms) (l : ns.length = rs.length) (l2 : ms.length = rs.length) (L : Lead rs ns) (M : Lead rs ms) : pstD ns ms = .none := by
  refine pst_none.mpr ⟨lead_ap h k k2 l l2 L M, List.find?_eq_none.mpr fun p hp => ?_⟩
  rw [l] at hp
  have hp : Per rs p := nsI_mem.mp hp
  have pn : Per ns p := ⟨hp.1, by rw [l]; exact hp.2⟩
  have pm : Per ms p := ⟨hp.1, by rw [l2]; exact hp.2⟩
  have key : brkP ns ms p = none := by
    unfold brkP
    by_cases ne : smT ns ms p = []
    · rw [ne]; rfl
    have hd := smT_in (smT_hd ne)
    have tu := smT_turn ne
    generalize (smT ns ms p).headD 0 = s0 at hd tu
    obtain ⟨c, cy, e1, m1⟩ := ring_cyc k pn hd.1
    obtain ⟨c', cy', e2, m2⟩ := ring_cyc k2 pm hd.2
    have ps := (ring_per k pn hd.1).1
    have ps : Per rs s0 := ⟨ps.1, by rw [← l]; exact ps.2⟩
    obtain ⟨⟨d, cd⟩, _⟩ := lead_onP h l L ps cy
    have o1 := L.ord s0 c d ps cy cd
    have o2 := M.ord s0 c' d ps cy' cd
    rw [e1] at tu
    have s1 : (smT ns ms p).Sublist (itrs ns s0 c) := by rw [tu]; exact List.filter_sublist
    have s2 : (smT ns ms p).Sublist (itrs ms s0 c') := sub_of_sub cd.2.2 (s1.trans o1) o2 fun x hx => (m2 x).mpr (smT_in hx).2
    rw [e2]
    exact broken_none cy'.2.2 _ ((List.tail_sublist _).trans s2)
  rw [key]
  simp
theorem sub_cons_cut {h : Int} {T W : List Int} (s : T.Sublist (h :: W)) (n : h ∉ T) : T.Sublist W := by
  cases s with
  | cons _ s => exact s
  | cons_cons _ s => exact absurd List.mem_cons_self n
theorem smT_nodup {ns ms : List Int} (h : Stt ns) {p : Int} (hp : Per ns p) : (smT ns ms p).Nodup := by
  unfold smT
  have n : (smF ns ms p).Nodup := (ringN h hp).sublist List.filter_sublist
  by_cases e : smF ns ms p = []
  · rw [if_pos e]; exact List.nodup_nil
  · rw [if_neg e]; exact turnTo_nodup n
/-- both rings lie in the lap, in their order -/
theorem cl_sub {ns ms : List Int} (h : Stt ns) (k : Stt ms) (l : ms.length = ns.length) (pst : pstD ns ms = .none) {g : Int} (hg : Per ns g) : (laF ns ms g).Sublist (clF ns ms g) ∧ (lbF ns ms g).Sublist (clF ns ms g) := by
  have pg : Per ms g := ⟨hg.1, by rw [l]; exact hg.2⟩
  obtain ⟨b1, b2, _⟩ := lb_facts (ns := ns) k pg
  have le : (mfF ns ms g).Sublist (clF ns ms g) := List.sublist_append_left _ _
  refine ⟨(mg_left _ _ (fun z hz => hz) b1 ?_).trans le, (mg_right _ _).trans le⟩
  have ef : (laF ns ms g).filter (fun z => decide (z ∈ lbF ns ms g)) = (laF ns ms g).filter (fun z => decide (z ∈ ringF ms g)) := List.filter_congr fun z _ => decide_eq_decide.mpr (b2 z)
  rw [ef]
  by_cases ne : smT ns ms g = []
  · have e0 : (laF ns ms g).filter (fun z => decide (z ∈ ringF ms g)) = [] := by
      unfold laF
      rw [if_pos ne]
      exact smT_nil.mp ne
    rw [e0]; exact List.nil_sublist _
  · have e0 : (laF ns ms g).filter (fun z => decide (z ∈ ringF ms g)) = smT ns ms g := by
      unfold laF
      rw [if_neg ne]
      exact (smT_turn ne).symm
    rw [e0]
    have od := List.find?_eq_none.mp (pst_none.mp pst).2 g (nsI_mem.mpr hg)
    have bn : brkP ns ms g = none := by
      cases e : brkP ns ms g with
      | none => rfl
      | some x => rw [e] at od; exact absurd rfl od
    unfold brkP at bn
    have nd := smT_nodup (ms := ms) h hg
    unfold lbF
    rw [if_neg ne]
    have hd := smT_in (smT_hd ne)
    cases eS : smT ns ms g with
    | nil => exact absurd eS ne
    | cons s0 T =>
      rw [eS] at bn nd hd
      have n2 := List.nodup_cons.mp nd
      have hd : s0 ∈ ringF ns g ∧ s0 ∈ ringF ms g := hd
      have bn : brokenL (turnTo (ringF ms g) s0) T = none := bn
      show (s0 :: T).Sublist (turnTo (ringF ms g) s0)
      have s := broken_sub (turnTo_nodup (ringN k pg)) n2.2 (fun x hx => mem_turnTo.mpr (smT_in (p := g) (ns := ns) (by rw [eS]; exact List.mem_cons_of_mem _ hx)).2) bn
      obtain ⟨X, Y, e, nx⟩ := mid_of hd.2
      rw [e, turnTo_mid nx] at s ⊢
      exact (sub_cons_cut s n2.1).cons_cons s0
theorem cp_len (ns ms : List Int) : (cpF ns ms).length = ns.length := by unfold cpF; rw [List.length_map, nsI_len]
theorem hd_comp {ns : List Int} {p : Int} (hp : Per ns p) : Per ns ((compF ns p).headD 0) ∧ compF ns ((compF ns p).headD 0) = compF ns p := by
  have m := comp_mem.mp (comp_hdB hp)
  exact ⟨m.1, comp_sameB m.2⟩
theorem gt_cp {ns ms : List Int} {p : Int} (hp : Per ns p) : gt (cpF ns ms) p = nxL (clF ns ms ((compF ns p).headD 0)) p := gt_map_nsI hp.1 hp.2
theorem cp_stt {ns ms : List Int} (h : Stt ns) (k : Stt ms) (l : ms.length = ns.length) (ap : apF ns ms = none) : Stt (cpF ns ms) := by
  refine ⟨fun z hz => ?_, by rw [cp_len]; exact h.le, by rw [cp_len]; exact h.ge⟩
  rw [cp_len]
  obtain ⟨p, hp, rfl⟩ := List.mem_map.mp hz
  have hp : Per ns p := nsI_mem.mp hp
  obtain ⟨h1, h2⟩ := hd_comp hp
  obtain ⟨_, cm⟩ := cl_facts h k l ap h1
  exact (comp_mem.mp ((cm _).mp (nxL_mem ((cm p).mpr (by rw [h2]; exact comp_self hp))))).1
theorem cp_next {ns ms : List Int} (h : Stt ns) (k : Stt ms) (l : ms.length = ns.length) (ap : apF ns ms = none) {g : Int} (hg : Per ns g) (e : (compF ns g).headD 0 = g) {i : Nat} (hi : i < (clF ns ms g).length) : gt (cpF ns ms) ((clF ns ms g).getD i 0) = (clF ns ms g).getD ((i + 1) % (clF ns ms g).length) 0 := by
  obtain ⟨nd, cm⟩ := cl_facts h k l ap hg
  have m := comp_mem.mp ((cm _).mp (getD_mem hi))
  rw [gt_cp m.1, comp_sameB m.2, e]
  unfold nxL
  have e2 : (clF ns ms g).getD i 0 = (clF ns ms g)[i] := by rw [List.getD_eq_getElem?_getD, List.getElem?_eq_getElem hi]; rfl
  rw [e2, nd.idxOf_getElem i hi]
/-- a common past leads to both -/
theorem cp_lead {ns ms : List Int} (h : Stt ns) (k : Stt ms) (l : ms.length = ns.length) (pst : pstD ns ms = .none) : Lead (cpF ns ms) ns ∧ Lead (cpF ns ms) ms := by
  have ap := (pst_none.mp pst).1
  have sc := cp_stt h k l ap
  have idem : ∀ p, Per ns p → (compF ns ((compF ns p).headD 0)).headD 0 = (compF ns p).headD 0 := fun p hp => by rw [(hd_comp hp).2]
  refine ⟨lap_lead sc h (by rw [cp_len]) fun p hp => ?_, lap_lead sc k (by rw [cp_len]; exact l) fun p hp => ?_⟩
  · obtain ⟨h1, h2⟩ := hd_comp hp
    obtain ⟨nd, cm⟩ := cl_facts h k l ap h1
    obtain ⟨s1, _⟩ := cl_sub h k l pst h1
    have form : ∃ s c, Cyc ns s c ∧ laF ns ms ((compF ns p).headD 0) = itrs ns s c := by
      unfold laF
      by_cases ne : smT ns ms ((compF ns p).headD 0) = []
      · rw [if_pos ne]
        obtain ⟨c, er, cy, _, _⟩ := headF_form h.lo h1.1 h1.2
        exact ⟨_, c, cy, er⟩
      · rw [if_neg ne]
        obtain ⟨c, cy, e, _⟩ := ring_cyc h h1 (smT_in (smT_hd ne)).1
        exact ⟨_, c, cy, e⟩
    obtain ⟨s, c, cy, e⟩ := form
    rw [e] at s1
    exact ⟨_, s, c, nd, fun x => by rw [cm, h2], fun i hi => cp_next h k l ap h1 (idem p hp) hi, cy, s1⟩
  · have hp : Per ns p := ⟨hp.1, by rw [← l]; exact hp.2⟩
    obtain ⟨h1, h2⟩ := hd_comp hp
    have pm : Per ms ((compF ns p).headD 0) := ⟨h1.1, by rw [l]; exact h1.2⟩
    obtain ⟨nd, cm⟩ := cl_facts h k l ap h1
    obtain ⟨_, s1⟩ := cl_sub h k l pst h1
    have form : ∃ s c, Cyc ms s c ∧ lbF ns ms ((compF ns p).headD 0) = itrs ms s c := by
      unfold lbF
      by_cases ne : smT ns ms ((compF ns p).headD 0) = []
      · rw [if_pos ne]
        obtain ⟨c, er, cy, _, _⟩ := headF_form k.lo pm.1 pm.2
        exact ⟨_, c, cy, er⟩
      · rw [if_neg ne]
        obtain ⟨c, cy, e, _⟩ := ring_cyc k pm (smT_in (smT_hd ne)).2
        exact ⟨_, c, cy, e⟩
    obtain ⟨s, c, cy, e⟩ := form
    rw [e] at s1
    exact ⟨_, s, c, nd, fun x => by rw [cm, h2, same_comp ap hp], fun i hi => cp_next h k l ap h1 (idem p hp) hi, cy, s1⟩
end Lp

namespace Lp
open PySem PySem.Spec PyProof.Rows L2
class Fns where
  v : Str → V
def dCallV (i : Nat) (v : V) (F : DSp) (f : DTA) (ε : Env) (Q : R → Env → Prop) : Prop := match ε.s[i]? with
  | some (.raw u) => u = v ∧ dCall F f ε Q
  | _ => False
def dCallVX (i : Nat) (v : V) (F : DSpX) (Ex : Xn → Env → Prop) (f : DTA) (ε : Env) (Q : R → Env → Prop) : Prop := match ε.s[i]? with
  | some (.raw u) => u = v ∧ dCallX F Ex f ε Q
  | _ => False
section
variable {w : Wx} {t : TA} {f : DTA} {a : Addr} {v : V} {i n : Nat}
end
section
variable {w : World} {cl : Str → Option Addr} {P0 : Hp} {W : WX} {Ex : Xn → Env → Prop} {a : Addr} {v : V} {i n : Nat}
end
section
variable {X : Cx} {CX : CXT} {k i : Nat} {f : Addr} {fd : FuncData} {ps : List Str} {sp : Sp} {x : Str} {p pos : Pos} {e : Expr} {es : List Expr} {t : TA}
end
end Lp

namespace Lp
open PySem PySem.Spec PyProof.Rows L2
local macro_rules | `(tactic| rfl') => `(tactic| try dsimp only [dVar_, gv_sh, gv_ow, gv_bx, gv_raw, gv_exn, gv_st, dC, dRaw, dOp, dUn, dTest, dTruth, dAnd, dOr, dNot, dYes, dIf, dAndV, dOrV, dNotV, dNotT, dChain, dNil, dCons, dTup, dLst, dats, dCB, dNoP, dPart, dSl, dNext, dBreak, dCont, dNever, dDrop, dRet, dRetN, dIfS, dSetG, dPar, dPar3, dAppend, dAppPop, dSetIx, dExt, dAug, dSet0, dSAdd, dSNotIn, dIter_, gi_l, gi_t, gi_b, dRng1, dRng2, dName, dGNil, dGCons, dGTup, dAsg, dFor, dWhile, dCall, dCallR, dArgs_, ga_f, ga_t, argsOf, dLc, wipeE, dListRg, dIndex, dSortSet, dSortSc, dEnum, dEnA, dZip, dIsi, dIsi2, isaT, φI, φB, φC, φNeg, add_i, add_l, add_t, mul_i, mul_l, φIx, sl_l, sl_t, eq_i, eq_s, eq_l, eq_t, eq_b, eq_n, φIsN, isN_n, isN_b, isN_i, isN_s, isN_l, isN_t, φLen, φList, φTuple, φAbs, φInt, φMax, φIsB, φIsNB, its_l, its_t, rd_sh, rd_nw, rd_br, rp_sh, rp_nw, rp_br, rp_bx, rp_raw, rp_sr, rr_sh, rr_nw, rr_br, ra_sh, ra_br, ra_bx, ra_raw, va_sh, va_nt, va_nf, va_raw, hb_n, hb_sh, hb_bx, hb_raw, hb_br, sh_n, sh_c, tr_n, tr_b, tr_i, tr_l, tr_t, ty_n, ty_b, ty_i, ty_s, ty_l, ty_t, if_ff, if_tt, Env.set, List.getElem?_cons_succ, List.getElem?_cons_zero, List.set_cons_succ, List.set_cons_zero, List.reverse_cons, List.reverse_nil, List.nil_append, List.cons_append, Option.bind_some, ite_true, ite_false, dCallX, dArgsX_, gx_s, dRaise, dIsX, dAttr, dIsNE, dListZip, dCallV, dCallVX, dST0, dSTAdd, dSTIn, dDc, gv_sto, dPub, gv_dco, gv_dsh, dDIn, dDGet, dSortD, dDisp1, dDNew, dDPut, va_dt, va_df, va_ds, rr_dn, rr_db, rr_ds, rw_dn, rw_db, rw_ds])
/-- _law_within: _law_box_here, _law_net, _law_ends_here, _law_found, _law_lap, _law_crowd, _law_who, _law_part, _law_at -/
def b_law_within [Fns] : DTS := (dSeq (dPar 2 false 3 true (dCall p_law_ends (dCons (dVar 1) dNil)) (dOp φMul (dLst (dCons (dC (.int 0)) dNil)) (dCB φLen (dCons (dVar 1) dNil))))
  (dSeq (dFor (dIter (dSortSet (dVar 2))) (dName 4) (dSeq (dSetG false 5 (dLc (dRng1 (dCons (dCB φLen (dCons (dVar 1) dNil)) dNil)) (dName 6) (dTest (dOp (φEq false) (dOp φIx (dVar 2) (dVar 6)) (dVar 4))) (dVar 6) [6]))
  (dSeq (dSetG false 7 (dCall p_law_net_of (dCons (dVar 0) (dCons (dCB φLen (dCons (dVar 5) dNil)) (dCons (dCall p_law_pick (dCons (dVar 0) (dCons (dLst (dCons (dC (.int 1)) (dCons (dC (.int 2)) (dCons (dC (.int 3)) (dCons (dC (.int 3)) (dCons (dC (.int 5)) dNil)))))) dNil))) dNil)))))
  (dFor (dEnA (dCons (dVar 5) dNil)) (dGTup 2 (dGCons (dName 8) (dGCons (dName 6) dGNil))) (dSetIx 3 (dOp φIx (dVar 5) (dOp φIx (dVar 7) (dVar 8))) (dVar 6))))))
  (dRet (dCB φTuple (dCons (dVar 3) dNil)))))
abbrev k_law_within : Nat := 7
def p_law_within : DSp := fun args c Q => ∃ ns : List Int, args = [.bx, .sh (.tuple (dI ns))] ∧ Stt ns ∧ ns.length ≤ 60 ∧ c ≤ 700000000 ∧ ∀ hs c', Stt hs → hs.length = ns.length → c' ≤ c + 1000000 → Q (.sh (.tuple (dI hs))) c'
theorem mon_law_within : MonF p_law_within := fun args c A B h ⟨gs, ea, h1, h2, h3, q⟩ => ⟨gs, ea, h1, h2, h3, fun hs c' a b d => h _ _ (q hs c' a b d)⟩
theorem m_law_within [Fns] : ∀ args c Q, p_law_within args c Q → defF k_law_within b_law_within args c Q := by
  rintro _ c Q ⟨ns, rfl, h1, h2, h3, q⟩
  show b_law_within _ ⟨[.bx, .sh (.tuple (dI ns)), .un, .un, .un, .un, .un, .un, .un], c⟩
  unfold b_law_within
  refine sq_ ?_
  rfl'
  refine ⟨_, ns, rfl, its_t _, h1, ?_⟩
  rfl'
  have hle := h1.le
  have hge := h1.ge
  have ne : ∀ r ∈ endsF ns, r ≠ [] := fun r hr => by
    obtain ⟨i, hi, rfl⟩ := List.mem_map.mp hr
    exact ring_ne h1 (per_nat (List.mem_range.mp hi))
  have len2 : (endsF ns).length = ns.length := by unfold endsF; rw [List.length_map, List.length_range]
  have hfs : (List.replicate ((dI ns).length : Int).toNat [PyData.int 0]).flatten = dI (List.replicate ns.length 0) := by
    rw [dI_len, Int.toNat_natCast]
    generalize ns.length = m
    induction m with
    | zero => rfl
    | succ m ih => rw [List.replicate_succ, List.flatten_cons, ih, List.replicate_succ]; rfl
  refine ⟨⟨by rw [dI_len]; omega, by rw [dI_len]; omega, by show 1 * _ ≤ 16777216; rw [dI_len]; omega⟩, ?_⟩
  rw [hfs]
  refine sq_ ?_
  rfl'
  rw [tupsD_dT _ ne]
  refine ⟨by omega, fun RS hR => ?_⟩
  rfl'
  refine ⟨rfl, ?_⟩
  have few : RS.length ≤ ns.length := by
    rw [← len2]
    exact hR.1.length_le_of_subset fun {k} hk => (hR.2.2 k).mp hk
  refine for_inv (fun k ε => ∃ gs x4 x5 x6 x7 x8 c2, NetOk ns.length gs ∧ c2 ≤ c + 10003 * k ∧ ε = ⟨[.bx, .sh (.tuple (dI ns)), .sh (.list (dT (endsF ns))), .ow (dI gs), x4, x5, x6, x7, x8], c2⟩) _ 0 _ (N := 60) (by rw [dT_len]; omega)
    ⟨List.replicate ns.length 0, _, _, _, _, _, c, ⟨List.length_replicate, fun z hz => by rw [(List.mem_replicate.mp hz).2]; omega⟩, by omega, rfl⟩ ?_ ?_
  · rintro d hd k _ E hk ⟨gs, x4, x5, x6, x7, x8, c2, hg, hc2, rfl⟩ hE
    obtain ⟨r, hr, rfl⟩ := List.mem_map.mp hd
    obtain ⟨i0, hi0, er⟩ := List.mem_map.mp ((hR.2.2 r).mp hr)
    have hi0 := List.mem_range.mp hi0
    subst er
    have rg : rgD 0 ((dI ns).length : Int).toNat = (List.range ns.length).map fun i : Nat => .int (i : Nat) := by
      unfold rgD
      rw [dI_len, Int.toNat_natCast]
      exact List.map_congr_left fun i _ => by rw [Int.zero_add]
    rfl'
    refine sq_ ?_
    rfl'
    refine ⟨by rw [dI_len]; omega, ?_⟩
    refine lcD_cong rg ?_
    refine lc_if (fun i : Nat => .int (i : Nat)) (fun i : Nat => PyData.int (i : Nat)) (fun i : Nat => decide (ringF ns (i : Int) = ringF ns (i0 : Int))) (List.range ns.length) [] (fun i hi Y N hY hN => ?_) (by rw [List.length_range]; show 0 + _ ≤ _; omega) ?_
    · have hi := List.mem_range.mp hi
      rfl'
      refine ⟨_, ends_atFB (per_nat hi), ?_⟩
      rfl'
      refine ⟨⟨shT _, shT _⟩, ?_⟩
      rw [eqvT]
      by_cases z : ringF ns (i : Int) = ringF ns (i0 : Int)
      · rw [decide_eq_true z]
        refine if_t rfl ?_
        exact hY (decide_eq_true z) _ _ rfl rfl
      · rw [decide_eq_false z]
        refine if_f (by decide) ?_
        exact hN (decide_eq_false z) _ rfl
    have ef : ((List.range ns.length).filter fun i : Nat => decide (ringF ns (i : Int) = ringF ns (i0 : Int))).map (fun i : Nat => PyData.int (i : Nat)) = dI (((List.range ns.length).filter fun i : Nat => decide (ringF ns (i : Int) = ringF ns (i0 : Int))).map fun i : Nat => (i : Int)) := by
      show _ = List.map _ (List.map _ _)
      rw [List.map_map]; rfl
    rw [List.nil_append, ef]
    have cw : ∀ z ∈ ((List.range ns.length).filter fun i : Nat => decide (ringF ns (i : Int) = ringF ns (i0 : Int))).map (fun i : Nat => (i : Int)), Per ns z := fun z hz => by
      obtain ⟨i, hi, rfl⟩ := List.mem_map.mp hz
      exact per_nat (List.mem_range.mp (List.mem_filter.mp hi).1)
    have cl : 1 ≤ (((List.range ns.length).filter fun i : Nat => decide (ringF ns (i : Int) = ringF ns (i0 : Int))).map (fun i : Nat => (i : Int))).length := by
      refine List.length_pos_of_mem (a := (i0 : Int)) (List.mem_map.mpr ⟨i0, List.mem_filter.mpr ⟨List.mem_range.mpr hi0, decide_eq_true rfl⟩, rfl⟩)
    have cm : (((List.range ns.length).filter fun i : Nat => decide (ringF ns (i : Int) = ringF ns (i0 : Int))).map (fun i : Nat => (i : Int))).length ≤ ns.length := by
      rw [List.length_map]
      exact Nat.le_trans (List.length_filter_le _ _) (by rw [List.length_range]; exact Nat.le_refl _)
    generalize ((List.range ns.length).filter fun i : Nat => decide (ringF ns (i : Int) = ringF ns (i0 : Int))).map (fun i : Nat => (i : Int)) = cs at cw cl cm
    rfl'
    refine sq_ ?_
    rfl'
    refine ⟨_, [.int 1, .int 2, .int 3, .int 3, .int 5], rfl, rfl, (fun z => nomatch z), by decide, by omega, fun e c3 he hc3 => ?_⟩
    have ek : ∃ k : Int, e = .int k ∧ 0 ≤ k ∧ k < 6 := by
      simp only [List.mem_cons, List.not_mem_nil, or_false] at he
      rcases he with rfl | rfl | rfl | rfl | rfl
      · exact ⟨1, rfl, by decide, by decide⟩
      · exact ⟨2, rfl, by decide, by decide⟩
      · exact ⟨3, rfl, by decide, by decide⟩
      · exact ⟨3, rfl, by decide, by decide⟩
      · exact ⟨5, rfl, by decide, by decide⟩
    obtain ⟨kk, rfl, kk0, kk1⟩ := ek
    rfl'
    rw [dI_len]
    refine ⟨(cs.length : Nat), kk, rfl, by omega, by omega, kk0, kk1, by omega, fun ps c4 hp hc4 => ?_⟩
    rfl'
    refine ⟨rfl, ?_⟩
    rw [enD_dI]
    refine for_inv (fun _ ε => ∃ gs x6 x8, NetOk ns.length gs ∧ ε = ⟨[.bx, .sh (.tuple (dI ns)), .sh (.list (dT (endsF ns))), .ow (dI gs), .sh (.tuple (dI (ringF ns (i0 : Int)))), .sh (.list (dI cs)), x6, .sh (.tuple (dI ps)), x8], c4⟩) _ 0 _ (N := 60) (by rw [List.length_map, List.length_zipIdx]; omega) ⟨gs, _, _, hg, rfl⟩ ?_ ?_
    · rintro d hd k2 _ E2 hk2 ⟨gs, x6, x8, hg, rfl⟩ hE2
      obtain ⟨⟨w, i⟩, hw, rfl⟩ := List.mem_map.mp hd
      have e1 : cs[i]? = some w := List.mem_zipIdx_iff_getElem?.mp hw
      have hi : i < cs.length := (List.getElem?_eq_some_iff.mp e1).1
      have pw := cw w (List.mem_of_getElem? e1)
      have hpl := hp.1
      have gp : 0 ≤ gt ps (i : Int) ∧ gt ps (i : Int) < (ps.length : Int) := gt_low (by rw [hp.1]; exact hp.2) (Int.natCast_nonneg _) (by omega)
      have gv : Per ns (gt cs (gt ps (i : Int))) := by
        unfold gt
        refine cw _ ?_
        have hb : (ps.getD ((i : Int).toNat) 0).toNat < cs.length := by
          have := gp.1
          have := gp.2
          unfold gt at *
          omega
        rw [List.getD_eq_getElem?_getD, List.getElem?_eq_getElem hb]
        exact List.getElem_mem hb
      rfl'
      refine ⟨rfl, ?_⟩
      refine ⟨_, atI_dI (ns := ps) (Int.natCast_nonneg _) (by omega), ?_⟩
      rfl'
      refine ⟨_, atI_dI (ns := cs) gp.1 (by omega), ?_⟩
      rfl'
      refine ⟨w.toNat, ixN_ok pw.1 (by rw [dI_len, hg.1]; exact pw.2), ?_⟩
      rw [dI_set]
      exact hE2 _ ⟨_, _, _, ⟨by rw [List.length_set]; exact hg.1, hg.2.set gv.1 gv.2⟩, rfl⟩
    rintro _ ⟨gs, x6, x8, hg, rfl⟩
    exact hE _ ⟨gs, _, _, _, _, _, c4, hg, by omega, rfl⟩
  rintro _ ⟨gs, x4, x5, x6, x7, x8, c2, hg, hc2, rfl⟩
  rfl'
  rw [dT_len] at hc2
  exact q gs c2 (hg.stt hge hle) hg.1 (by omega)
end Lp

namespace Lp
open PySem PySem.Spec PyProof.Rows L2
local macro_rules | `(tactic| rfl') => `(tactic| try dsimp only [dVar_, gv_sh, gv_ow, gv_bx, gv_raw, gv_st, dC, dRaw, dOp, dUn, dTest, dTruth, dAnd, dOr, dNot, dYes, dIf, dAndV, dOrV, dNotV, dNotT, dChain, dNil, dCons, dTup, dLst, dats, dCB, dNoP, dPart, dSl, dNext, dBreak, dCont, dNever, dDrop, dRet, dRetN, dIfS, dSetG, dPar, dPar3, dAppend, dAppPop, dSetIx, dExt, dAug, dSet0, dSAdd, dSNotIn, dIter_, gi_l, gi_t, gi_b, dRng1, dRng2, dName, dGNil, dGCons, dGTup, dAsg, dFor, dWhile, dCall, dCallR, dArgs_, ga_f, ga_t, argsOf, dLc, wipeE, dListRg, dIndex, dSortSet, dSortSc, dEnum, dEnA, dZip, dIsi, dIsi2, isaT, φI, φB, φC, φNeg, add_i, add_l, add_t, mul_i, mul_l, φIx, sl_l, sl_t, eq_i, eq_s, eq_l, eq_t, eq_b, eq_n, φIsN, isN_n, isN_b, isN_i, isN_s, isN_l, isN_t, φLen, φList, φTuple, φAbs, φInt, φMax, φIsB, φIsNB, its_l, its_t, rd_sh, rd_nw, rd_br, rp_sh, rp_nw, rp_br, rp_bx, rp_raw, rp_sr, rr_sh, rr_nw, rr_br, ra_sh, ra_br, ra_bx, ra_raw, va_sh, va_nt, va_nf, va_raw, hb_n, hb_sh, hb_bx, hb_raw, hb_br, sh_n, sh_c, tr_n, tr_b, tr_i, tr_l, tr_t, ty_n, ty_b, ty_i, ty_s, ty_l, ty_t, if_ff, if_tt, Env.set, List.getElem?_cons_succ, List.getElem?_cons_zero, List.set_cons_succ, List.set_cons_zero, List.reverse_cons, List.reverse_nil, List.nil_append, List.cons_append, Option.bind_some, ite_true, ite_false])
end Lp

namespace Lp
open PySem PySem.Spec PyProof.Rows L2
local macro_rules | `(tactic| rfl') => `(tactic| try dsimp only [dVar_, gv_sh, gv_ow, gv_bx, gv_raw, gv_st, dC, dRaw, dOp, dUn, dTest, dTruth, dAnd, dOr, dNot, dYes, dIf, dAndV, dOrV, dNotV, dNotT, dChain, dNil, dCons, dTup, dLst, dats, dCB, dNoP, dPart, dSl, dNext, dBreak, dCont, dNever, dDrop, dRet, dRetN, dIfS, dSetG, dPar, dPar3, dAppend, dAppPop, dSetIx, dExt, dAug, dSet0, dSAdd, dSNotIn, dIter_, gi_l, gi_t, gi_b, dRng1, dRng2, dName, dGNil, dGCons, dGTup, dAsg, dFor, dWhile, dCall, dCallR, dArgs_, ga_f, ga_t, argsOf, dLc, wipeE, dListRg, dIndex, dSortSet, dSortSc, dEnum, dEnA, dZip, dIsi, dIsi2, isaT, φI, φB, φC, φNeg, add_i, add_l, add_t, mul_i, mul_l, φIx, sl_l, sl_t, eq_i, eq_s, eq_l, eq_t, eq_b, eq_n, φIsN, isN_n, isN_b, isN_i, isN_s, isN_l, isN_t, φLen, φList, φTuple, φAbs, φInt, φMax, φIsB, φIsNB, its_l, its_t, rd_sh, rd_nw, rd_br, rp_sh, rp_nw, rp_br, rp_bx, rp_raw, rp_sr, rr_sh, rr_nw, rr_br, ra_sh, ra_br, ra_bx, ra_raw, va_sh, va_nt, va_nf, va_raw, hb_n, hb_sh, hb_bx, hb_raw, hb_br, sh_n, sh_c, tr_n, tr_b, tr_i, tr_l, tr_t, ty_n, ty_b, ty_i, ty_s, ty_l, ty_t, if_ff, if_tt, Env.set, List.getElem?_cons_succ, List.getElem?_cons_zero, List.set_cons_succ, List.set_cons_zero, List.reverse_cons, List.reverse_nil, List.nil_append, List.cons_append, Option.bind_some, ite_true, ite_false])
theorem idx_sub {N : List Int} (nd : N.Nodup) : ∀ {l : List Int}, l.Sublist N → (l.map fun z => N.idxOf z).Pairwise (· < ·) := fun {l} hs => by
  have h1 : (N.map fun z => N.idxOf z).Pairwise (· < ·) := by
    have : N.map (fun z => N.idxOf z) = List.range N.length := by
      refine List.ext_getElem (by simp) fun i a b => ?_
      rw [List.getElem_map, List.getElem_range]
      exact nd.idxOf_getElem i (by simpa using a)
    rw [this]
    exact List.pairwise_lt_range
  exact h1.sublist (hs.map _)
/-- spots that fall once -/
def Once (spots : List Nat) : Prop := ∃ J, ∀ i, i < spots.length → spots.getD ((i + 1) % spots.length) 0 < spots.getD i 0 → i = J
theorem once_of {s1 s2 : List Nat} (h1 : s1.Pairwise (· < ·)) (h2 : s2.Pairwise (· < ·)) (h : ∀ x ∈ s1, ∀ y ∈ s2, y < x) : Once (s1 ++ s2) := by
  have at1 : ∀ i, i < s1.length → (s1 ++ s2).getD i 0 = s1.getD i 0 := fun i hi => by
    rw [List.getD_eq_getElem?_getD, List.getElem?_append_left hi, List.getD_eq_getElem?_getD]
  have at2 : ∀ i, s1.length ≤ i → (s1 ++ s2).getD i 0 = s2.getD (i - s1.length) 0 := fun i hi => by
    rw [List.getD_eq_getElem?_getD, List.getElem?_append_right hi, List.getD_eq_getElem?_getD]
  have up1 : ∀ i, i + 1 < s1.length → s1.getD i 0 < s1.getD (i + 1) 0 := fun i hi => by
    rw [List.getD_eq_getElem?_getD, List.getD_eq_getElem?_getD, List.getElem?_eq_getElem (by omega), List.getElem?_eq_getElem hi]
    exact List.pairwise_iff_getElem.mp h1 i (i + 1) (by omega) hi (by omega)
  have up2 : ∀ i, i + 1 < s2.length → s2.getD i 0 < s2.getD (i + 1) 0 := fun i hi => by
    rw [List.getD_eq_getElem?_getD, List.getD_eq_getElem?_getD, List.getElem?_eq_getElem (by omega), List.getElem?_eq_getElem hi]
    exact List.pairwise_iff_getElem.mp h2 i (i + 1) (by omega) hi (by omega)
  have mem1 : ∀ i, i < s1.length → s1.getD i 0 ∈ s1 := fun i hi => by
    rw [List.getD_eq_getElem?_getD, List.getElem?_eq_getElem hi]; exact List.getElem_mem _
  have mem2 : ∀ i, i < s2.length → s2.getD i 0 ∈ s2 := fun i hi => by
    rw [List.getD_eq_getElem?_getD, List.getElem?_eq_getElem hi]; exact List.getElem_mem _
  have len : (s1 ++ s2).length = s1.length + s2.length := List.length_append
  refine ⟨if s1.length = 0 ∨ s2.length = 0 then s1.length + s2.length - 1 else s1.length - 1, fun i hi hf => ?_⟩
  rw [len] at hi hf
  by_cases last : i + 1 = s1.length + s2.length
  · rw [last, Nat.mod_self] at hf
    by_cases e : s1.length = 0 ∨ s2.length = 0
    · rw [if_pos e]; omega
    · exfalso
      have a0 : 0 < s1.length := by omega
      have b0 : 0 < s2.length := by omega
      rw [at1 0 a0, at2 i (by omega)] at hf
      have := h _ (mem1 0 a0) _ (mem2 (i - s1.length) (by omega))
      omega
  · rw [Nat.mod_eq_of_lt (by omega)] at hf
    by_cases q : i + 1 < s1.length
    · exfalso
      rw [at1 i (by omega), at1 (i + 1) q] at hf
      have := up1 i q
      omega
    · by_cases q2 : i + 1 = s1.length
      · by_cases e : s1.length = 0 ∨ s2.length = 0
        · omega
        · rw [if_neg e]; omega
      · exfalso
        rw [at2 i (by omega), at2 (i + 1) (by omega)] at hf
        have := up2 (i - s1.length) (by omega)
        rw [show i + 1 - s1.length = i - s1.length + 1 by omega] at hf
        omega
theorem once_turn {M lap : List Int} (nd : M.Nodup) (k : Nat) (hs : lap.Sublist M) : Once (lap.map fun z => (M.drop k ++ M.take k).idxOf z) := by
  have hs2 : lap.Sublist (M.take k ++ M.drop k) := by rw [List.take_append_drop]; exact hs
  obtain ⟨l1, l2, rfl, hl1, hl2⟩ := List.sublist_append_iff.mp hs2
  have ndN : (M.drop k ++ M.take k).Nodup := by
    refine (List.perm_append_comm.trans (List.Perm.of_eq (List.take_append_drop k M))).nodup_iff.mpr nd
  rw [List.map_append]
  refine once_of (idx_sub ndN (hl1.trans (List.sublist_append_right _ _))) (idx_sub ndN (hl2.trans (List.sublist_append_left _ _))) fun x hx y hy => ?_
  obtain ⟨u, hu, rfl⟩ := List.mem_map.mp hx
  obtain ⟨v, hv, rfl⟩ := List.mem_map.mp hy
  have hu2 := hl1.subset hu
  have hv2 := hl2.subset hv
  have nu : u ∉ M.drop k := fun z => (List.nodup_append.mp ndN).2.2 u z u hu2 rfl
  rw [List.idxOf_append, List.idxOf_append, if_pos hv2, if_neg nu]
  have := List.idxOf_lt_length_of_mem hv2
  omega
section
variable {a b : List Int} (h : Stt a) (hb : Stt b) (hl : b.length = a.length) (f : Lead a b)
include h hb hl f
theorem old_inj {x y : Int} (hx : Per a x) (hy : Per a y) (cx : ∃ c, Cyc b x c) (cy : ∃ c, Cyc b y c) (e : ringF a x = ringF a y) : ringF b x = ringF b y := by
  obtain ⟨c, cx⟩ := cx
  obtain ⟨c', cy⟩ := cy
  have bp : ∀ {x : Int}, Per a x → Per b x := fun {x} hx => ⟨hx.1, by rw [hl]; exact hx.2⟩
  have oy : y ∈ ringF a y := (on_iff h hy).mpr (lead_on h f hy cy)
  rw [← e] at oy
  obtain ⟨s, es⟩ := ring_itr h.lo hx.1 hx.2 oy
  have hm := f.one x y c c' hx hy cx cy ⟨s, 0, es⟩
  obtain ⟨i, _, rfl⟩ := itrs_mem.mp hm
  exact (ringF_itr hb.lo hx.1 (bp hx).2 i).symm
theorem old_all {x : Int} (hx : Per a x) : ∃ y, Per a y ∧ (∃ c, Cyc b y c) ∧ ringF a y = ringF a x ∧ ringF b y = ringF b x := by
  have bx : Per b x := ⟨hx.1, by rw [hl]; exact hx.2⟩
  obtain ⟨c, cy, _, _⟩ := ringF_cyc hb.lo bx.1 bx.2
  have py := itr_low hb.lo bx.1 bx.2 (heightF b x)
  obtain ⟨m, _, em⟩ := lead_itr h f hx (heightF b x)
  refine ⟨itr b x (heightF b x), ⟨py.1, by rw [← hl]; exact py.2⟩, ⟨c, cy⟩, ?_, ringF_itr hb.lo bx.1 bx.2 _⟩
  rw [em]
  exact ringF_itr h.lo hx.1 hx.2 m
/-- a ring of a future begins at x -/
theorem lap_at {k : List Int} (hk : k ∈ endsF b) : Per a (k.headD 0) ∧ (∃ c, Cyc b (k.headD 0) c) ∧ ringF b (k.headD 0) = k ∧ k ≠ [] ∧ (∀ z ∈ k, z ∈ ringF a (k.headD 0)) ∧ Once (k.map fun z => (ringF a (k.headD 0)).idxOf z) ∧ k.length ≤ b.length := by
  obtain ⟨j, hj, rfl⟩ := List.mem_map.mp hk
  have pj := per_nat (List.mem_range.mp hj)
  obtain ⟨c, e1, cy, h0, h1⟩ := headF_form hb.lo pj.1 pj.2
  have ex : (ringF b (j : Int)).headD 0 = headF b (j : Int) := rfl
  rw [ex]
  have pb : Per b (headF b (j : Int)) := ⟨h0, h1⟩
  have pa : Per a (headF b (j : Int)) := ⟨h0, by rw [← hl]; exact h1⟩
  have hm : headF b (j : Int) ∈ ringF b (j : Int) := by
    rw [e1]; exact itrs_mem.mpr ⟨0, cy.1, rfl⟩
  obtain ⟨d, cn⟩ := lead_on h f pa cy
  have sub := f.ord _ c d pa cy cn
  rw [← e1] at sub
  have ra := cyc_ring h pa cn
  refine ⟨pa, ⟨c, cy⟩, (ring_per hb pj hm).2.1, (fun z => by rw [z] at hm; cases hm), (fun z hz => ?_), ?_, ring_len hb pj⟩
  · rw [ra, mem_turnF]
    exact sub.subset hz
  · rw [ra]
    exact once_turn cn.2.2 _ sub
end
/-- _law_is_led: _law_net, _law_aim, _law_who, _law_to, _law_olds, _law_laps, _law_lap, _law_spots, _law_falls, _law_k, _law_spot -/
def b_law_is_led : DTS := (dSeq (dIfS (dNot (dTruth (dCB (φAll false) (dCons (dLc (dEnA (dCons (dVar 1) dNil)) (dGTup 2 (dGCons (dName 2) (dGCons (dName 3) dGNil))) dYes (dOp (φIn false) (dVar 3) (dCall p_law_walk (dCons (dVar 0) (dCons (dVar 2) dNil)))) [2, 3]) dNil)))) (dRet (dC (.bool false))) dNext)
  (dSeq (dPar 4 false 5 false (dCall p_law_ends (dCons (dVar 0) dNil)) (dSortSet (dCall p_law_ends (dCons (dVar 1) dNil))))
  (dSeq (dIfS (dOr (dTest (dOp (φEq true) (dLenSet (dLc (dIter (dVar 5)) (dName 6) dYes (dOp φIx (dVar 4) (dOp φIx (dVar 6) (dC (.int 0)))) [6])) (dCB φLen (dCons (dVar 5) dNil)))) (dTest (dOp (φEq true) (dLenSet (dVar 4)) (dCB φLen (dCons (dVar 5) dNil))))) (dRet (dC (.bool false))) dNext)
  (dSeq (dFor (dIter (dVar 5)) (dName 6) (dSeq (dSetG false 7 (dLc (dIter (dVar 6)) (dName 2) dYes (dIndex (dOp φIx (dVar 4) (dOp φIx (dVar 6) (dC (.int 0)))) (dVar 2)) [2]))
  (dSeq (dSetG false 8 (dLc (dEnA (dCons (dVar 7) dNil)) (dGTup 2 (dGCons (dName 9) (dGCons (dName 10) dGNil))) (dTest (dOp (φB fun i j => decide (j < i)) (dVar 10) (dOp φIx (dVar 7) (dOp (φC (fun _ j => 0 < j) fun i j => i % j) (dOp φAdd (dVar 9) (dC (.int 1))) (dCB φLen (dCons (dVar 7) dNil)))))) (dVar 9) [9, 10]))
  (dIfS (dTest (dOp (φB fun i j => decide (j < i)) (dCB φLen (dCons (dVar 8) dNil)) (dC (.int 1)))) (dRet (dC (.bool false))) dNext))))
  (dRet (dC (.bool true)))))))
abbrev k_law_is_led : Nat := 9
def p_law_is_led : DSp := fun args c Q => ∃ (ns gs : List Int), args = [.sh (.tuple (dI ns)), .sh (.tuple (dI gs))] ∧ Stt ns ∧ Stt gs ∧ gs.length = ns.length ∧ ns.length < 64 ∧ Lead ns gs ∧ Q (.sh (.bool true)) c
theorem mon_law_is_led : MonF p_law_is_led := fun args c A B h ⟨ns, gs, ea, h1, h2, h3, h4, h5, q⟩ => ⟨ns, gs, ea, h1, h2, h3, h4, h5, h _ _ q⟩
theorem lenS_ {f : DTE} {ε : Env} {Q : R → Env → Prop} (h : f ε fun r ε1 => match r.dat with
  | some (.list ds) => match tupsD ds with
    | some nss => nss.length < 64 ∧ ∀ ms : List (List Int), ms.Nodup → (∀ k, k ∈ ms ↔ k ∈ nss) → Q (.sh (.int (ms.length : Nat))) ε1
    | none => False
  | _ => False) : dLenSet f ε Q := h
abbrev led_body : DTS := (dSeq (dSetG false 7 (dLc (dIter (dVar 6)) (dName 2) dYes (dIndex (dOp φIx (dVar 4) (dOp φIx (dVar 6) (dC (.int 0)))) (dVar 2)) [2]))
  (dSeq (dSetG false 8 (dLc (dEnA (dCons (dVar 7) dNil)) (dGTup 2 (dGCons (dName 9) (dGCons (dName 10) dGNil))) (dTest (dOp (φB fun i j => decide (j < i)) (dVar 10) (dOp φIx (dVar 7) (dOp (φC (fun _ j => 0 < j) fun i j => i % j) (dOp φAdd (dVar 9) (dC (.int 1))) (dCB φLen (dCons (dVar 7) dNil)))))) (dVar 9) [9, 10]))
  (dIfS (dTest (dOp (φB fun i j => decide (j < i)) (dCB φLen (dCons (dVar 8) dNil)) (dC (.int 1)))) (dRet (dC (.bool false))) dNext)))
theorem once_few {sp : List Nat} (h : Once sp) : (((sp.map fun n : Nat => (n : Int)).zipIdx 0).filter fun p : Int × Nat => decide ((sp.map fun n : Nat => (n : Int)).getD ((p.2 + 1) % sp.length) 0 < p.1)).length ≤ 1 := by
  obtain ⟨J, hJ⟩ := h
  have nd : ((((sp.map fun n : Nat => (n : Int)).zipIdx 0).filter fun p : Int × Nat => decide ((sp.map fun n : Nat => (n : Int)).getD ((p.2 + 1) % sp.length) 0 < p.1)).map Prod.snd).Nodup := by
    refine List.Nodup.sublist (List.Sublist.map _ List.filter_sublist) ?_
    rw [List.zipIdx_map_snd]
    exact List.nodup_range'
  have := nd.length_le_of_subset (l₂ := [J]) fun {i} hi => by
    obtain ⟨⟨z, i'⟩, hp, rfl⟩ := List.mem_map.mp hi
    obtain ⟨h1, h2⟩ := List.mem_filter.mp hp
    have h2' := of_decide_eq_true h2
    have e1 : (sp.map fun n : Nat => (n : Int))[i']? = some z := List.mem_zipIdx_iff_getElem?.mp h1
    have hi : i' < sp.length := by
      have := (List.getElem?_eq_some_iff.mp e1).1
      rwa [List.length_map] at this
    have hm : (i' + 1) % sp.length < sp.length := Nat.mod_lt _ (by omega)
    rw [List.getElem?_map, List.getElem?_eq_getElem hi] at e1
    have ez : z = ((sp[i'] : Nat) : Int) := (Option.some.inj e1).symm
    rw [List.getD_eq_getElem?_getD, List.getElem?_map, List.getElem?_eq_getElem hm] at h2'
    have h3 : ((sp[(i' + 1) % sp.length] : Nat) : Int) < ((sp[i'] : Nat) : Int) := by rw [← ez]; exact h2'
    rw [List.mem_singleton]
    refine hJ i' hi ?_
    rw [List.getD_eq_getElem?_getD, List.getD_eq_getElem?_getD, List.getElem?_eq_getElem hm, List.getElem?_eq_getElem hi]
    show sp[(i' + 1) % sp.length] < sp[i']
    omega
  rw [List.length_map, List.length_singleton] at this
  exact this
theorem led_loop {ns gs : List Int} (hs : Stt ns) (hg : Stt gs) (hl : gs.length = ns.length) (h64 : ns.length < 64) (f : Lead ns gs) {RS : List (List Int)} (at_ : ∀ r ∈ RS, atI (dT (endsF ns)) (r.headD 0) = some (.tuple (dI (ringF ns (r.headD 0))))) {x0 x1 x3 x5 : SV} {Δ : DEnds} {c : Nat} : ∀ (LS : List (List Int)) (y2 y6 y7 y8 y9 : SV) {y10 : SV}, (∀ r ∈ LS, r ∈ RS ∧ r ∈ endsF gs) →
    (∀ y2 y6 y7 y8 y9 y10, Δ.nx ⟨[x0, x1, y2, x3, .sh (.list (dT (endsF ns))), x5, y6, y7, y8, y9, y10], c⟩) →
    forD (dName 6) led_body Δ (dT LS) ⟨[x0, x1, y2, x3, .sh (.list (dT (endsF ns))), x5, y6, y7, y8, y9, y10], c⟩
  | [], y2, y6, y7, y8, y9, y10, _, q => q y2 y6 y7 y8 y9 y10
  | r :: LS, y2, y6, y7, y8, y9, y10, hm, q => by
    obtain ⟨hr, he⟩ := hm r List.mem_cons_self
    obtain ⟨p, cy, er, ne, mem, once, len⟩ := lap_at hs hg hl f he
    have hle := hs.le
    show forD _ _ _ (.tuple (dI r) :: dT LS) _
    refine for_cons ?_
    unfold led_body
    rfl'
    refine sqa_ fun D hD => ?_
    rfl'
    refine lc_all PyData.int (fun z => .int ((ringF ns (r.headD 0)).idxOf z : Nat)) r [] (fun z hz K hK => ?_) (by show 0 + _ ≤ _; omega) ?_
    · rfl'
      refine ⟨_, atI_hd ne, ?_⟩
      refine ⟨_, at_ r hr, ?_⟩
      rfl'
      rw [intsD_dI]
      exact ⟨mem z hz, hK _ _ rfl rfl⟩
    have e1 : r.map (fun z => PyData.int ((ringF ns (r.headD 0)).idxOf z : Nat)) = dI ((r.map fun z => (ringF ns (r.headD 0)).idxOf z).map fun n : Nat => (n : Int)) := by
      show _ = List.map _ (List.map _ (List.map _ _))
      rw [List.map_map, List.map_map]; rfl
    rw [List.nil_append, e1]
    have lsp : (r.map fun z => (ringF ns (r.headD 0)).idxOf z).length = r.length := List.length_map ..
    have r0 : 0 < r.length := List.length_pos_iff.mpr ne
    generalize r.map (fun z => (ringF ns (r.headD 0)).idxOf z) = sp at once lsp
    rfl'
    refine hD _ ?_
    refine sqa_ fun D hD => ?_
    rfl'
    rw [enD_at]
    refine lc_if (fun p : Int × Nat => PyData.tuple [.int (p.2 : Nat), .int p.1]) (fun p : Int × Nat => .int (p.2 : Nat)) (fun p : Int × Nat => decide ((sp.map fun n : Nat => (n : Int)).getD ((p.2 + 1) % sp.length) 0 < p.1)) ((sp.map fun n : Nat => (n : Int)).zipIdx 0) [] (fun p hp Y N hY hN => ?_) (by rw [List.length_zipIdx, List.length_map]; show 0 + _ ≤ _; omega) ?_
    · obtain ⟨z, i⟩ := p
      rfl'
      rw [dI_len, List.length_map]
      have hmod : (i + 1) % sp.length < sp.length := Nat.mod_lt _ (by omega)
      have ei : ((i : Int) + 1) % ((sp.length : Nat) : Int) = (((i + 1) % sp.length : Nat) : Int) := by rw [Int.natCast_emod]; rfl
      refine ⟨rfl, by omega, ?_⟩
      rw [ei]
      refine ⟨_, atI_dI (Int.natCast_nonneg _) (by rw [List.length_map]; omega), ?_⟩
      have eg : gt (sp.map fun n : Nat => (n : Int)) (((i + 1) % sp.length : Nat) : Int) = (sp.map fun n : Nat => (n : Int)).getD ((i + 1) % sp.length) 0 := by
        unfold gt
        rw [Int.toNat_natCast]
      rw [eg]
      dsimp only
      refine it_2 (fun hb => ?_) fun hb => ?_
      · exact hY (decide_eq_true hb) _ _ rfl rfl
      · exact hN (decide_eq_false hb) _ rfl
    rw [List.nil_append]
    rfl'
    refine hD _ ?_
    rfl'
    rw [List.length_map]
    have := once_few once
    refine it_f (by omega) ?_
    exact led_loop hs hg hl h64 f at_ LS _ _ _ _ _ (fun r hr => hm r (List.mem_cons_of_mem _ hr)) q
theorem m_law_is_led : ∀ args c Q, p_law_is_led args c Q → defF k_law_is_led b_law_is_led args c Q := by
  rintro _ c Q ⟨ns, gs, rfl, hs, hg, hl, h64, f, q⟩
  show b_law_is_led _ ⟨[.sh (.tuple (dI ns)), .sh (.tuple (dI gs)), .un, .un, .un, .un, .un, .un, .un, .un, .un], c⟩
  unfold b_law_is_led
  have hw := (ways_iff hs).mpr f.ways
  refine sq_ ?_
  rfl'
  rw [enD_at]
  refine lc_all (fun p : Int × Nat => PyData.tuple [.int (p.2 : Nat), .int p.1]) (fun _ => .bool true) (gs.zipIdx 0) [] (fun p hp K hK => ?_) (by rw [List.length_zipIdx]; show 0 + _ ≤ _; omega) ?_
  · obtain ⟨z, i⟩ := p
    have e1 := List.mem_zipIdx_iff_getElem?.mp hp
    have hi : i < gs.length := (List.getElem?_eq_some_iff.mp e1).1
    have pi := per_nat (ns := ns) (j := i) (by omega)
    have ez : gt gs (i : Int) = z := by
      unfold gt
      rw [Int.toNat_natCast, List.getD_eq_getElem?_getD]
      show (gs[i]?).getD 0 = z
      have e2 : gs[i]? = some z := e1
      rw [e2]; rfl
    rfl'
    refine ⟨rfl, ?_⟩
    refine ⟨_, ns, _, rfl, its_t _, hs, pi, ?_⟩
    rfl'
    refine φIn_dI (its_l _) ?_
    have hm := hw (i : Int) pi
    rw [ez] at hm
    refine hK _ _ ?_ rfl
    show _ = R.sh (.bool true)
    rw [decide_eq_true hm]; rfl
  rw [List.nil_append, dB_map (gs.zipIdx 0) fun _ => true]
  refine φAll_dB ?_
  have ea : ((gs.zipIdx 0).map fun _ => true).all id = true := by simp
  show if (!(((gs.zipIdx 0).map fun _ => true).all id)) = true then _ else _
  rw [ea]
  refine if_f rfl ?_
  refine sq_ ?_
  rfl'
  refine ⟨_, ns, rfl, its_t _, hs, ?_⟩
  rfl'
  refine ⟨_, gs, rfl, its_t _, hg, ?_⟩
  rfl'
  have ne1 : ∀ r ∈ endsF gs, r ≠ [] := fun r hr => (lap_at hs hg hl f hr).2.2.2.1
  have ne2 : ∀ r ∈ endsF ns, r ≠ [] := fun r hr => (lap_at hs hs rfl (lead_refl hs) hr).2.2.2.1
  have len1 : (endsF gs).length = gs.length := by unfold endsF; rw [List.length_map, List.length_range]
  have len2 : (endsF ns).length = ns.length := by unfold endsF; rw [List.length_map, List.length_range]
  rw [tupsD_dT _ ne1]
  refine ⟨by omega, fun RS hR => ?_⟩
  have mR : ∀ k, k ∈ RS → k ∈ endsF gs := fun k hk => (hR.2.2 k).mp hk
  have few : RS.length ≤ gs.length := by
    rw [← len1]
    exact hR.1.length_le_of_subset fun {k} hk => mR k hk
  have at_ : ∀ r ∈ RS, atI (dT (endsF ns)) (r.headD 0) = some (.tuple (dI (ringF ns (r.headD 0)))) := fun r hr => by
    have p := (lap_at hs hg hl f (mR r hr)).1
    have p0 := p.1; have p1 := p.2
    rw [atI_nat p0 (by rw [dT_len, len2]; exact p1)]
    show ((endsF ns).map _)[_]? = _
    unfold endsF
    rw [List.getElem?_map, List.getElem?_map, List.getElem?_range (by omega)]
    show some (PyData.tuple (dI (ringF ns (((r.headD 0).toNat : Nat) : Int)))) = _
    rw [show (((r.headD 0).toNat : Nat) : Int) = r.headD 0 by omega]
  have ndG : (RS.map fun r => ringF ns (r.headD 0)).Nodup := by
    refine List.pairwise_map.mpr (hR.1.imp_of_mem fun {x y} hx hy ne e => ne ?_)
    have ax := lap_at hs hg hl f (mR x hx)
    have ay := lap_at hs hg hl f (mR y hy)
    rw [← ax.2.2.1, ← ay.2.2.1]
    exact old_inj hs hg hl f ax.1 ay.1 ax.2.1 ay.2.1 e
  have allG : ∀ k, k ∈ endsF ns ↔ k ∈ RS.map fun r => ringF ns (r.headD 0) := fun k => by
    constructor
    · intro hk
      obtain ⟨j, hj, rfl⟩ := List.mem_map.mp hk
      have pj := per_nat (List.mem_range.mp hj)
      obtain ⟨y, py, ⟨c, cy⟩, e1, e2⟩ := old_all hs hg hl f pj
      have hm : ringF gs (j : Int) ∈ RS := (hR.2.2 _).mpr (List.mem_map.mpr ⟨j, List.mem_range.mpr (by rw [hl]; exact List.mem_range.mp hj), rfl⟩)
      refine List.mem_map.mpr ⟨_, hm, ?_⟩
      have al := lap_at hs hg hl f (mR _ hm)
      have on : y ∈ ringF gs (j : Int) := by
        rw [← e2]
        exact (on_iff hg ⟨py.1, by rw [hl]; exact py.2⟩).mpr ⟨c, cy⟩
      have h1 := al.2.2.2.2.1 y on
      have h2 := (ring_per hs al.1 h1).2.1
      show ringF ns ((ringF gs (j : Int)).headD 0) = ringF ns (j : Int)
      rw [← h2, e1]
    · intro hk
      obtain ⟨r, hr, rfl⟩ := List.mem_map.mp hk
      have p := (lap_at hs hg hl f (mR r hr)).1
      have p0 := p.1; have p1 := p.2
      refine List.mem_map.mpr ⟨(r.headD 0).toNat, List.mem_range.mpr (by omega), ?_⟩
      rw [show (((r.headD 0).toNat : Nat) : Int) = r.headD 0 by omega]
  have same : ∀ ms : List (List Int), ms.Nodup → (∀ k, k ∈ ms ↔ k ∈ RS.map fun r => ringF ns (r.headD 0)) → ms.length = RS.length := fun ms nd mem => by
    have := ((List.perm_ext_iff_of_nodup nd ndG).mpr mem).length_eq
    rw [List.length_map] at this
    exact this
  refine sq_ ?_
  rfl'
  refine lenS_ ?_
  rfl'
  refine lc_all (fun r => PyData.tuple (dI r)) (fun r : List Int => .tuple (dI (ringF ns (r.headD 0)))) RS [] (fun r hr K hK => ?_) (by show 0 + _ ≤ _; omega) ?_
  · rfl'
    refine ⟨_, atI_hd (ne1 r (mR r hr)), ?_⟩
    refine ⟨_, at_ r hr, ?_⟩
    exact hK _ _ rfl rfl
  have eT : RS.map (fun r : List Int => PyData.tuple (dI (ringF ns (r.headD 0)))) = dT (RS.map fun r => ringF ns (r.headD 0)) := by
    show _ = List.map _ (List.map _ _)
    rw [List.map_map]; rfl
  rw [List.nil_append, eT]
  rfl'
  rw [tupsD_dT _ (fun r hr => ne2 r ((allG r).mpr hr))]
  refine ⟨by rw [List.length_map]; omega, fun ms nd mem => ?_⟩
  rfl'
  rw [dT_len, same ms nd mem]
  refine in_f rfl ?_
  refine lenS_ ?_
  rfl'
  rw [tupsD_dT _ ne2]
  refine ⟨by omega, fun ms2 nd2 mem2 => ?_⟩
  rfl'
  rw [dT_len, same ms2 nd2 fun k => (mem2 k).trans (allG k)]
  refine in_f rfl ?_
  refine sqa_ fun D hD => ?_
  rfl'
  refine ⟨rfl, led_loop hs hg hl h64 f at_ RS _ _ _ _ _ (fun r hr => ⟨hr, mR r hr⟩) fun y2 y6 y7 y8 y9 y10 => hD _ ?_⟩
  rfl'
  exact q
end Lp

namespace Lp
open PySem PySem.Spec PyProof.Rows L2
local macro_rules | `(tactic| rfl') => `(tactic| try dsimp only [dVar_, gv_sh, gv_ow, gv_bx, gv_raw, gv_exn, gv_st, dC, dRaw, dOp, dUn, dTest, dTruth, dAnd, dOr, dNot, dYes, dIf, dAndV, dOrV, dNotV, dNotT, dChain, dNil, dCons, dTup, dLst, dats, dCB, dNoP, dPart, dSl, dNext, dBreak, dCont, dNever, dDrop, dRet, dRetN, dIfS, dSetG, dPar, dPar3, dAppend, dAppPop, dSetIx, dExt, dAug, dSet0, dSAdd, dSNotIn, dIter_, gi_l, gi_t, gi_b, dRng1, dRng2, dName, dGNil, dGCons, dGTup, dAsg, dFor, dWhile, dCall, dCallR, dArgs_, ga_f, ga_t, argsOf, dLc, wipeE, dListRg, dIndex, dSortSet, dSortSc, dEnum, dEnA, dZip, dIsi, dIsi2, isaT, φI, φB, φC, φNeg, add_i, add_l, add_t, mul_i, mul_l, φIx, sl_l, sl_t, eq_i, eq_s, eq_l, eq_t, eq_b, eq_n, φIsN, isN_n, isN_b, isN_i, isN_s, isN_l, isN_t, φLen, φList, φTuple, φAbs, φInt, φMax, φIsB, φIsNB, its_l, its_t, rd_sh, rd_nw, rd_br, rp_sh, rp_nw, rp_br, rp_bx, rp_raw, rp_sr, rr_sh, rr_nw, rr_br, ra_sh, ra_br, ra_bx, ra_raw, va_sh, va_nt, va_nf, va_raw, hb_n, hb_sh, hb_bx, hb_raw, hb_br, sh_n, sh_c, tr_n, tr_b, tr_i, tr_l, tr_t, ty_n, ty_b, ty_i, ty_s, ty_l, ty_t, if_ff, if_tt, Env.set, List.getElem?_cons_succ, List.getElem?_cons_zero, List.set_cons_succ, List.set_cons_zero, List.reverse_cons, List.reverse_nil, List.nil_append, List.cons_append, Option.bind_some, ite_true, ite_false, dCallX, dArgsX_, gx_s, dRaise, dIsX, dAttr, dIsNE, dListZip, dCallV, dCallVX, dST0, dSTAdd, dSTIn, dDc, gv_sto, dPub, gv_dco, gv_dsh, dDIn, dDGet, dSortD, dDisp1, dDNew, dDPut, va_dt, va_df, va_ds, rr_dn, rr_db, rr_ds, rw_dn, rw_db, rw_ds])
/-- no def is spoken of here -/
instance fnsO : Fns := ⟨fun _ => V.non⟩
/-- _law_right: _law_box_here, _law_turn, _law_net, _law_mate, _law_past_due, _law_to -/
def b_k42_law_right : DTS := (dSeq (dFor (dRng1 (dCons (dC (.int 6)) dNil)) (dName 1) (dSeq (dSetG false 2 (dCall p_law_any_net (dCons (dVar 0) (dCons (dC (.int 30)) dNil))))
  (dSeq (dSetG false 3 (dIf (dTest (dOp (φEq false) (dCall p_law_take (dCons (dVar 0) (dCons (dC (.int 2)) dNil))) (dC (.int 0)))) (dCall p_law_toured (dCons (dVar 0) (dCons (dVar 2) (dCons (dC (.int 30)) dNil)))) (dCall p_law_within (dCons (dVar 0) (dCons (dVar 2) dNil)))))
  (dSeq (dSetG false 2 (dCall p_law_toured (dCons (dVar 0) (dCons (dVar 2) (dCons (dC (.int 9)) dNil)))))
  (dIfS (dTest (dOp (φIsN false) (dCall p_past_bar (dCons (dVar 2) (dCons (dVar 3) dNil))) (dC .none))) (dSeq (dFor (dIter (dTup (dCons (dCall p_common_past (dCons (dVar 2) (dCons (dVar 3) dNil))) (dCons (dCallR p_common_past (dCons (dCB φList (dCons (dVar 2) dNil)) (dCons (dCB φList (dCons (dVar 3) dNil)) dNil))) dNil)))) (dName 4) (dSeq (dIfS (dOr (dTest (dOp (φEq true) (dCB φLen (dCons (dVar 4) dNil)) (dCB φLen (dCons (dVar 2) dNil)))) (dNot (dTruth (dCB (φAll false) (dCons (dLc (dIter (dVar 4)) (dName 5) dYes (dChain (φB fun i j => decide (i ≤ j)) (φB fun i j => decide (i < j)) (dC (.int 0)) (dVar 5) (dCB φLen (dCons (dVar 2) dNil))) [5]) dNil))))) (dRet (dC (.bool false))) dNext)
  (dIfS (dOr (dNot (dTruth (dCall p_law_is_led (dCons (dVar 4) (dCons (dVar 2) dNil))))) (dNot (dTruth (dCall p_law_is_led (dCons (dVar 4) (dCons (dVar 3) dNil)))))) (dRet (dC (.bool false))) dNext)))
  (dIfS (dTest (dOp (φEq true) (dCall p_common_past (dCons (dVar 2) (dCons (dVar 3) dNil))) (dCall p_common_past (dCons (dVar 2) (dCons (dVar 3) dNil))))) (dRet (dC (.bool false))) dNext)) dNext)))))
  (dRet (dC (.bool true))))
abbrev k_k42_law_right : Nat := 5
def p_k42_law_right : DSp := fun args c Q => args = [.bx] ∧ c ≤ 1000000 ∧ ∀ c', Q (.sh (.bool true)) c'
theorem m_k42_law_right : ∀ args c Q, p_k42_law_right args c Q → defF k_k42_law_right b_k42_law_right args c Q := by
  rintro _ c Q ⟨rfl, hc, q⟩
  show b_k42_law_right _ ⟨[.bx, .un, .un, .un, .un, .un], c⟩
  unfold b_k42_law_right
  refine sqa_ fun DD hDD => ?_
  rfl'
  refine ⟨⟨by decide, by decide⟩, rfl, ?_⟩
  refine for_inv (fun k ε => ∃ x1 x2 x3 x4 x5 c2, c2 ≤ c + 1200000 * k ∧ ε = ⟨[.bx, x1, x2, x3, x4, x5], c2⟩) _ 0 _ (N := 6) ?_ ⟨_, _, _, _, _, c, by omega, rfl⟩ ?_ ?_
  · exact Nat.le_refl 6
  · rintro d hd k _ E hk ⟨x1, x2, x3, x4, x5, c2, hc2, rfl⟩ hE
    rfl'
    refine sq_ ?_
    rfl'
    refine ⟨30, rfl, by decide, by decide, by omega, fun ns c3 hn nl hc3 => ?_⟩
    rfl'
    refine sq_ ?_
    rfl'
    have tail : ∀ (ms : List Int) c4, Stt ms → ms.length = ns.length → c4 ≤ c + 1200000 * k + 1100000 → (dSeq (dSetG false 2 (dCall p_law_toured (dCons (dVar 0) (dCons (dVar 2) (dCons (dC (.int 9)) dNil)))))
  (dIfS (dTest (dOp (φIsN false) (dCall p_past_bar (dCons (dVar 2) (dCons (dVar 3) dNil))) (dC .none))) (dSeq (dFor (dIter (dTup (dCons (dCall p_common_past (dCons (dVar 2) (dCons (dVar 3) dNil))) (dCons (dCallR p_common_past (dCons (dCB φList (dCons (dVar 2) dNil)) (dCons (dCB φList (dCons (dVar 3) dNil)) dNil))) dNil)))) (dName 4) (dSeq (dIfS (dOr (dTest (dOp (φEq true) (dCB φLen (dCons (dVar 4) dNil)) (dCB φLen (dCons (dVar 2) dNil)))) (dNot (dTruth (dCB (φAll false) (dCons (dLc (dIter (dVar 4)) (dName 5) dYes (dChain (φB fun i j => decide (i ≤ j)) (φB fun i j => decide (i < j)) (dC (.int 0)) (dVar 5) (dCB φLen (dCons (dVar 2) dNil))) [5]) dNil))))) (dRet (dC (.bool false))) dNext)
  (dIfS (dOr (dNot (dTruth (dCall p_law_is_led (dCons (dVar 4) (dCons (dVar 2) dNil))))) (dNot (dTruth (dCall p_law_is_led (dCons (dVar 4) (dCons (dVar 3) dNil)))))) (dRet (dC (.bool false))) dNext)))
  (dIfS (dTest (dOp (φEq true) (dCall p_common_past (dCons (dVar 2) (dCons (dVar 3) dNil))) (dCall p_common_past (dCons (dVar 2) (dCons (dVar 3) dNil))))) (dRet (dC (.bool false))) dNext)) dNext)) { nx := E, rt := fun r ε => Q r ε.c, bk := DD, ct := E } ⟨[.bx, .sh d, .sh (.tuple (dI ns)), .sh (.tuple (dI ms)), x4, x5], c4⟩ := by
      intro ms c4 hm ml hc4
      refine sq_ ?_
      rfl'
      refine ⟨ns, 9, rfl, hn, by decide, by decide, by omega, fun hs c5 hh hl _ hc5 => ?_⟩
      rfl'
      refine ⟨_, _, hs, ms, rfl, its_t _, its_t _, hh, hm, by omega, by omega, ?_⟩
      by_cases z : pstD hs ms = .none
      · obtain ⟨L1, L2⟩ := cp_lead hh hm (by omega) z
        have sc := cp_stt hh hm (by omega) (pst_none.mp z).1
        have lc := cp_len hs ms
        have z2 : pstD ms hs = .none := lead_past sc hm hh (by omega) (by omega) L2 L1
        obtain ⟨M1, M2⟩ := cp_lead hm hh (by omega) z2
        have sd := cp_stt hm hh (by omega) (pst_none.mp z2).1
        have ld := cp_len ms hs
        rw [z]
        rfl'
        refine if_t rfl ?_
        refine sqa_ fun D2 hD2 => ?_
        rfl'
        refine ⟨_, _, hs, ms, rfl, its_t _, its_t _, hh, hm, by omega, by omega, z, ?_⟩
        rfl'
        simp only [List.reverse_cons, List.reverse_nil, List.nil_append, List.cons_append]
        rfl'
        refine ⟨_, _, ms, hs, rfl, its_l _, its_l _, hm, hh, by omega, by omega, z2, ?_⟩
        rfl'
        refine ⟨trivial, ?_⟩
        refine for_inv (fun k ε => ∃ y4, ε = ⟨[.bx, .sh d, .sh (.tuple (dI hs)), .sh (.tuple (dI ms)), y4, x5], c5⟩) _ 0 _ (N := 2) (Nat.le_refl _) ⟨_, rfl⟩ ?_ ?_
        · rintro e he k2 _ E2 hk2 ⟨y4, rfl⟩ hE2
          obtain ⟨P, rfl, sP, lP, P1, P2⟩ : ∃ P : List Int, e = .tuple (dI P) ∧ Stt P ∧ P.length = hs.length ∧ Lead P hs ∧ Lead P ms := by
            rcases List.mem_cons.mp he with a | a
            · exact ⟨_, a, sc, lc, L1, L2⟩
            · exact ⟨_, List.mem_singleton.mp a, sd, by omega, M2, M1⟩
          rfl'
          refine sq_ ?_
          rfl'
          rw [dI_len, dI_len, lP]
          refine if_f (by rw [decide_eq_true rfl]; rfl) ?_
          refine lc_all PyData.int (fun _ => PyData.bool true) P [] (fun w hw K hK => ?_) (by show 0 + _ ≤ _; omega) ?_
          · have := sP.lo w hw
            rfl'
            rw [dI_len]
            refine if_t (decide_eq_true (by omega)) ?_
            exact hK _ _ (by rw [decide_eq_true (by omega : w < (hs.length : Int))]; rfl) rfl
          rw [List.nil_append]
          have eB : P.map (fun _ => PyData.bool true) = dB (P.map fun _ => true) := by
            show _ = List.map _ (List.map _ _)
            rw [List.map_map]; rfl
          rw [eB]
          rfl'
          refine φAll_dB ?_
          have al : (P.map fun _ => true).all id = true := by
            rw [List.all_map]; exact List.all_eq_true.mpr fun _ _ => rfl
          rw [al]
          rfl'
          refine if_f rfl ?_
          refine ⟨P, hs, rfl, sP, hh, by omega, by omega, P1, ?_⟩
          rfl'
          refine if_f rfl ?_
          refine ⟨P, ms, rfl, sP, hm, by omega, by omega, P2, ?_⟩
          rfl'
          refine if_f rfl ?_
          exact hE2 _ ⟨_, rfl⟩
        · rintro _ ⟨y4, rfl⟩
          refine hD2 _ ?_
          clear hD2 D2
          rfl'
          refine ⟨_, _, hs, ms, rfl, its_t _, its_t _, hh, hm, by omega, by omega, z, ?_⟩
          rfl'
          refine ⟨_, _, hs, ms, rfl, its_t _, its_t _, hh, hm, by omega, by omega, z, ?_⟩
          rfl'
          refine ⟨⟨shT _, shT _⟩, ?_⟩
          rw [eqvT]
          refine if_f (by rw [decide_eq_true rfl]; rfl) ?_
          exact hE _ ⟨_, _, _, _, _, c5, by rw [Nat.mul_succ]; omega, rfl⟩
      · have : isN (pstD hs ms) = false := by
          rcases pst_tup z with ⟨p, e⟩ | ⟨x, y, w, e⟩
          · rw [e]; rfl
          · rw [e]; rfl
        rfl'
        rw [this]
        refine if_f rfl ?_
        exact hE _ ⟨_, _, _, _, _, c5, by rw [Nat.mul_succ]; omega, rfl⟩
    refine c_take (by decide) (by decide) (by omega) fun w c4 w0 w1 hc4 => ?_
    rfl'
    refine it_2 (fun s => ?_) fun s => ?_
    · refine ⟨ns, 30, rfl, hn, by decide, by decide, by omega, fun ms c5 hm ml _ hc5 => ?_⟩
      rfl'
      exact tail ms c5 hm ml (by omega)
    · refine ⟨ns, rfl, hn, by omega, by omega, fun ms c5 hm ml hc5 => ?_⟩
      rfl'
      exact tail ms c5 hm ml (by omega)
  rintro _ ⟨x1, x2, x3, x4, x5, c2, hc2, rfl⟩
  refine hDD _ ?_
  rfl'
  exact q _
end Lp

namespace Lp
open PySem PySem.Spec PyProof.Rows L2
def topS (i : Nat) : Stmt := PySem.Challenge.pw_lookpast_k42_common_pasts_lead_to_both.main.body.getD i (.Pass ⟨0, 0, 0, 0⟩)
section
variable {P : Program} {w : World} {K : PySem.W.Frag} {mg : Str → Option Value} {base : Heap}
abbrev sTake : Stmt := topS 28
theorem scTake : FnScope ["_law_box_here", "_law_below", "_law_found", "_law_once"] ["_law_box_here", "_law_below"] (defScope sTake) := ⟨rfl, rfl, rfl, by decide +kernel, rfl, by decide +kernel, by decide +kernel⟩
theorem ok_take {f : Addr} {fd : FuncData} {k : Nat} (F : Fun K "_law_take" "_law_take" sTake f fd) : FnOk P w K mg base CX0 (k + 1) f fd ["_law_box_here", "_law_below"] spTake := by
  refine F.ok scTake (fun vs H Q E h => ?_) (fun cdv A outer s H vs Q E hr h => ?_)
  · obtain ⟨b, span, c, rfl, _⟩ := h
    rfl
  · obtain ⟨b, span, c, rfl, ⟨x0, x1, x2, hb, h0, h1, h2, h3, h4⟩, hc, hs1, hs2, q⟩ := h
    refine ⟨_, pss_cons (ps_if (pt_cmpR op_gt (pe_ix ix_list (pv 0) pe_int (fun _ _ => rfl)) pe_int (nomark _))
        (pss_cons (ps_set (i := 2) scTake.nd rfl (.inl rfl) (pe_op op_mod (pe_ix ix_list (pv 0) pe_int (fun _ _ => rfl)) (pv 1)))
        (pss_cons (ps_asg (pe_op op_fdiv (pe_ix ix_list (pv 0) pe_int (fun _ _ => rfl)) (pv 1)) (pg_sub (pv 0) pe_int set_list))
        (pss_one (ps_ret (pv 2))))) pss_nil)
      (pss_cons (ps_if (pt_cmpR op_gt (pv 1) (pe_op op_pow pe_int pe_int) (nomark _)) pss_never pss_nil)
      (pss_cons (ps_asg (pe_op op_add (pe_ix ix_list (pv 0) pe_int (fun _ _ => rfl)) pe_int) (pg_sub (pv 0) pe_int set_list))
      (pss_cons (ps_set (i := 3) scTake.nd rfl (.inl rfl) (pe_op op_mod (pe_op op_pow (pe_op op_add (pe_ix ix_list (pv 0) pe_int (fun _ _ => rfl)) (pe_op op_mul pe_int (pe_ix ix_list (pv 0) pe_int (fun _ _ => rfl)))) pe_int) pe_int))
      (pss_one (ps_ret (pe_op op_mod (pe_op op_fdiv (pe_op op_mod (pe_op op_add (pe_op op_mul (pv 3) (pe_op op_add (pe_op op_mod (pv 3) pe_int) pe_int)) (pe_op op_mul (pe_ix ix_list (pv 0) pe_int (fun _ _ => rfl)) pe_int)) pe_int) pe_int) (pv 1))))))), ?_⟩
    have ix : SqL K H b [.int x0, .int x1, .int x2] := SqL.of hb
    refine ⟨.ref b, rfl, b, _, 0, .int x0, rfl, rfl, ix, rfl, x0, 0, rfl, rfl, _, rfl, ite2 (fun e => ?_) (fun e => ?_)⟩
    · have e0 : 0 < x0 := of_decide_eq_true e
      refine ⟨.ref b, rfl, b, _, 0, .int x0, rfl, rfl, ix, rfl, .int span, rfl, x0, span, rfl, rfl, (by show (0 : Int) < span; omega), ?_⟩
      refine ⟨.ref b, rfl, b, _, 0, .int x0, rfl, rfl, ix, rfl, .int span, rfl, x0, span, rfl, rfl, ⟨by omega, by omega⟩, ?_⟩
      refine ⟨.ref b, rfl, b, _, 0, 0, rfl, rfl, hb, rfl, ?_⟩
      refine ⟨.int (x0 % span), rfl, q _ _ (Sb.upd (Sb.refl b H)) ⟨x0 / span, x1, x2, upd_same, ?_, h1, h2, h3, by omega⟩ (Int.emod_nonneg _ (by omega)) (Int.emod_lt_of_pos _ (by omega))⟩
      exact Int.ediv_nonneg h0 (by omega)
    · refine ⟨.int span, rfl, 10, 7, rfl, rfl, ⟨by decide, by decide, by decide⟩, span, _, rfl, rfl, _, rfl, ?_⟩
      have e1 : ¬ ((10 : Int) ^ (7 : Int).toNat < span) := by
        show ¬ ((10000000 : Int) < span)
        omega
      rw [decide_eq_false e1]
      refine iteF ?_
      refine ⟨.ref b, rfl, b, _, 2, .int x2, rfl, rfl, ix, rfl, x2, 1, rfl, rfl, ?_⟩
      refine ⟨.ref b, rfl, b, _, 2, 2, rfl, rfl, hb, rfl, ?_⟩
      have ix2 : SqL K (upd H b (.lst [.int x0, .int x1, .int (x2 + 1)])) b [.int x0, .int x1, .int (x2 + 1)] := SqL.of upd_same
      refine ⟨.ref b, rfl, b, _, 1, .int x1, rfl, rfl, ix2, rfl, .ref b, rfl, b, _, 2, .int (x2 + 1), rfl, rfl, ix2, rfl, 48271, x2 + 1, rfl, rfl, .inl ⟨by decide, by decide⟩, x1, _, rfl, rfl, _, 5, rfl, rfl, ⟨by decide, by decide, by omega⟩, _, 2147483647, rfl, rfl, (by show (0 : Int) < 2147483647; decide), ?_⟩
      dsimp only
      generalize hg : (x1 + 48271 * (x2 + 1)) ^ (5 : Int).toNat % 2147483647 = once
      have o1 : 0 ≤ once := by rw [← hg]; exact Int.emod_nonneg _ (by decide)
      have o2 : once < 2147483647 := by rw [← hg]; exact Int.emod_lt_of_pos _ (by decide)
      refine ⟨.int once, rfl, .int once, rfl, once, 30011, rfl, rfl, (by show (0 : Int) < 30011; decide), _, 7, rfl, rfl, once, _, rfl, rfl, .inl ⟨by omega, by omega⟩, .ref b, rfl, b, _, 2, .int (x2 + 1), rfl, rfl, ix2, rfl, x2 + 1, 7919, rfl, rfl, .inl ⟨by omega, by omega⟩, _, _, rfl, rfl, _, 2147483629, rfl, rfl, (by show (0 : Int) < 2147483629; decide), _, 64, rfl, rfl, ⟨by decide, by decide⟩, .int span, rfl, _, span, rfl, rfl, (by show (0 : Int) < span; omega), ?_⟩
      exact q _ _ (Sb.upd (Sb.refl b H)) ⟨x0, x1, x2 + 1, upd_same, h0, h1, h2, by omega, by omega⟩ (Int.emod_nonneg _ (by omega)) (Int.emod_lt_of_pos _ (by omega))
theorem ok_takeB {f : Addr} {fd : FuncData} {k : Nat} (F : Fun K "_law_take" "_law_take" sTake f fd) (T : Cal P w K mg base "_law_take" (k + 1) ["_law_box_here", "_law_below"] spTake f fd) : FnOk P w K mg base CX0 (k + 2) f fd ["_law_box_here", "_law_below"] spTakeB := by
  refine F.ok scTake (fun vs H Q E h => ?_) (fun cdv A outer s H vs Q E hr h => ?_)
  · obtain ⟨b, span, c, rfl, _⟩ := h
    rfl
  · obtain ⟨b, span, c, rfl, hB, hc, hs1, hs2, q⟩ := h
    obtain ⟨x0, x1, x2, hb, h0, h1, h2, h3, h4⟩ := id hB
    refine ⟨_, pss_cons (ps_if (pt_cmpR op_gt (pe_ix ix_list (pv 0) pe_int (fun _ _ => rfl)) pe_int (nomark _))
        (pss_cons (ps_set (i := 2) scTake.nd rfl (.inl rfl) (pe_op op_mod (pe_ix ix_list (pv 0) pe_int (fun _ _ => rfl)) (pv 1)))
        (pss_cons (ps_asg (pe_op op_fdivW (pe_ix ix_list (pv 0) pe_int (fun _ _ => rfl)) (pv 1)) (pg_sub (pv 0) pe_int set_list))
        (pss_one (ps_ret (pv 2))))) pss_nil)
      (pss_cons (ps_if (pt_cmpR op_gt (pv 1) (pe_op op_pow pe_int pe_int) (nomark _))
        (pss_one (ps_ret (pe_op op_mod (pe_op op_add (pe_call T.ok hr (by rfl) T.g T.kp T.bd .nil pass0 (pa_cons (pv 0) (pa_cons (pe_op op_pow pe_int pe_int) pa_nil))) (pe_op op_mul (pe_op op_pow pe_int pe_int) (pe_call T.ok hr (by rfl) T.g T.kp T.bd .nil pass0 (pa_cons (pv 0) (pa_cons (pe_op op_add (pe_op op_fdiv (pe_op op_sub (pv 1) pe_int) (pe_op op_pow pe_int pe_int)) pe_int) pa_nil))))) (pv 1)))) pss_nil)
      pss_never), ?_⟩
    have ix : SqL K H b [.int x0, .int x1, .int x2] := SqL.of hb
    refine ⟨.ref b, rfl, b, _, 0, .int x0, rfl, rfl, ix, rfl, x0, 0, rfl, rfl, _, rfl, ite2 (fun e => ?_) (fun e => ?_)⟩
    · have e0 : 0 < x0 := of_decide_eq_true e
      refine ⟨.ref b, rfl, b, _, 0, .int x0, rfl, rfl, ix, rfl, .int span, rfl, x0, span, rfl, rfl, (by show (0 : Int) < span; omega), ?_⟩
      refine ⟨.ref b, rfl, b, _, 0, .int x0, rfl, rfl, ix, rfl, .int span, rfl, x0, span, rfl, rfl, wide_div (b := 64) (by omega) (by omega) (by decide) (by decide), ?_⟩
      refine ⟨.ref b, rfl, b, _, 0, 0, rfl, rfl, hb, rfl, ?_⟩
      refine ⟨.int (x0 % span), rfl, q _ _ (Sb.upd (Sb.refl b H)) ⟨x0 / span, x1, x2, upd_same, ?_, h1, h2, h3, by omega⟩ (Int.emod_nonneg _ (by omega)) (Int.emod_lt_of_pos _ (by omega))⟩
      exact Int.ediv_nonneg h0 (by omega)
    · have p7 : (10 : Int) ^ (7 : Int).toNat = 10000000 := by decide
      refine ⟨.int span, rfl, 10, 7, rfl, rfl, ⟨by decide, by decide, by decide⟩, span, _, rfl, rfl, _, rfl, ?_⟩
      have e1 : (10 : Int) ^ (7 : Int).toNat < span := by rw [p7]; omega
      rw [decide_eq_true e1]
      refine iteT ?_
      refine ⟨.ref b, rfl, 10, 7, rfl, rfl, ⟨by decide, by decide, by decide⟩, b, _, c, rfl, hB, by omega, by decide, by decide, fun H1 r1 sb1 hB1 r10 r11 => ?_⟩
      refine ⟨10, 7, rfl, rfl, ⟨by decide, by decide, by decide⟩, .ref b, rfl, .int span, rfl, span, 1, rfl, rfl, 10, 7, rfl, rfl, ⟨by decide, by decide, by decide⟩, _, _, rfl, rfl, ⟨by decide, by decide⟩, _, 1, rfl, rfl, b, _, c + 1, rfl, hB1, by omega, ?_, ?_, fun H2 r2 sb2 hB2 r20 r21 => ?_⟩
      · show 1 ≤ (span - 1) / (10 : Int) ^ (7 : Int).toNat + 1
        rw [p7]; omega
      · show (span - 1) / (10 : Int) ^ (7 : Int).toNat + 1 ≤ 10000000
        rw [p7]; omega
      · refine ⟨_, r2, rfl, rfl, .inl ⟨by decide, by decide⟩, r1, _, rfl, rfl, .int span, rfl, _, span, rfl, rfl, (by show (0 : Int) < span; omega), ?_⟩
        exact q H2 _ (sb1.trans sb2) (hB2.le (by omega)) (Int.emod_nonneg _ (by omega)) (Int.emod_lt_of_pos _ (by omega))
theorem ok_takeW {f : Addr} {fd : FuncData} {k : Nat} (F : Fun K "_law_take" "_law_take" sTake f fd) (T : Cal P w K mg base "_law_take" (k + 1) ["_law_box_here", "_law_below"] spTake f fd) : FnOk P w K mg base CX0 (k + 2) f fd ["_law_box_here", "_law_below"] spTakeW :=
  FnOk.imp (fn_or (ok_take F) (ok_takeB F T)) fun vs H Q E h => by
    obtain ⟨b, span, c, rfl, hB, hc, h1, h2, q⟩ := h
    by_cases hs : span ≤ 10000000
    · exact .inl ⟨b, span, c, rfl, hB, by omega, h1, hs, fun H' r sb hB' => q H' r sb (hB'.le (by omega))⟩
    · exact .inr ⟨b, span, c, rfl, hB, hc, by omega, h2, q⟩
abbrev sBox : Stmt := topS 27
theorem scBox : FnScope ["_law_script", "_law_k", "_law_cell"] ["_law_script", "_law_k"] (defScope sBox) := ⟨rfl, rfl, rfl, by decide +kernel, rfl, by decide +kernel, by decide +kernel⟩
theorem ok_box {f : Addr} {fd : FuncData} {k : Nat} (F : Fun K "_law_box" "_law_box" sBox f fd) (B : Bi mg) : FnOk P w K mg base CX0 (k + 1) f fd ["_law_script", "_law_k"] (spBox K) := by
  refine F.ok scBox (fun vs H Q E h => ?_) (fun cdv A outer s H vs Q E hr h => ?_)
  · obtain ⟨a, k, ns, rfl, _⟩ := h
    rfl
  · obtain ⟨a, k, ns, rfl, hS, h0, h1, q⟩ := h
    refine ⟨_, pss_cons (ps_set (i := 2) scBox.nd rfl (.inl rfl) (pe_ifExp (pt_cmpR op_lt (pv 1) (pe_callB call_len_seq (by rfl) B.len PySem.boot_len (pa_cons (pv 0) pa_nil)) (nomark _)) (pe_ix ix_list (pv 0) (pv 1) (fun _ _ => rfl)) pe_int))
      (pss_one (ps_ret (pe_lst (pa_cons (pe_op op_mul (pe_callB call_abs (by rfl) B.abs (by decide +kernel) (pa_cons (pv 2) pa_nil)) (pe_callTy call_int1 (by rfl) B.int (by decide +kernel) (pa_cons (pe_cmpR op_ge (pe_callB call_abs (by rfl) B.abs (by decide +kernel) (pa_cons (pv 2) pa_nil)) (pe_op op_pow pe_int pe_int) (nomark _)) pa_nil)))
        (pa_cons (pe_op op_add (pe_op op_add (pe_op op_mod (pv 2) pe_int) (pe_op op_mul pe_int (pv 1))) pe_int) (pa_cons pe_int pa_nil)))))), ?_⟩
    have fin : ∀ z : Int, tRet (tLst (tCons (tOp (rI CMul fun i j => .int (i * j)) (tCB (fun xs H Q => ∃ i, xs = [.int i] ∧ Q (.int (if i < 0 then -i else i)) H) (tCons (tVar 2) tNil)) (tCB (fun xs H Q => (∃ i, xs = [.int i] ∧ Q (.int i) H) ∨ ∃ k, xs = [.bl k] ∧ Q (.int (if k then 1 else 0)) H) (tCons (tOp (rI0 fun i j => .bl (decide (j ≤ i))) (tCB (fun xs H Q => ∃ i, xs = [.int i] ∧ Q (.int (if i < 0 then -i else i)) H) (tCons (tVar 2) tNil)) (tOp (rI CPow fun i j => .int (i ^ j.toNat)) (tC (.int 10)) (tC (.int 18)))) tNil)))
        (tCons (tOp (rI0 fun i j => .int (i + j)) (tOp (rI0 fun i j => .int (i + j)) (tOp (rI (fun _ j => 0 < j) fun i j => .int (i % j)) (tVar 2) (tC (.int 2147483629))) (tOp (rI CMul fun i j => .int (i * j)) (tC (.int 7919)) (tVar 1))) (tC (.int 95))) (tCons (tC (.int 0)) tNil)))) { nx := fun _ H' => Q .non H', rt := Q } [some (.ref a), some (.int k), some (.int z)] H := by
      intro z
      refine ⟨.int z, rfl, z, rfl, .int z, rfl, z, rfl, 10, 18, rfl, rfl, ⟨by decide, by decide, by decide⟩, _, _, rfl, rfl, .inr ⟨_, rfl, _, _, rfl, rfl, .inr ?_, ?_⟩⟩
      · split <;> (split <;> exact ⟨by decide, by decide⟩)
      · refine ⟨.int z, rfl, z, _, rfl, rfl, (by show (0 : Int) < 2147483629; decide), .int k, rfl, 7919, k, rfl, rfl, .inl ⟨by decide, by decide⟩, _, _, rfl, rfl, _, 95, rfl, rfl, (by show 3 ≤ sizeLine; decide), fun p hp => ?_⟩
        refine q _ p (same_new hp) hp ⟨_, _, _, upd_same, ?_, ?_, ?_, by decide, by decide⟩
        · have h1 : (0 : Int) ≤ (if z < 0 then -z else z) := by split <;> omega
          refine Int.mul_nonneg h1 ?_
          split <;> (split <;> decide)
        · have := Int.emod_nonneg z (show (2147483629 : Int) ≠ 0 by decide)
          omega
        · have := Int.emod_lt_of_pos z (show (0 : Int) < 2147483629 by decide)
          omega
    refine ⟨.int k, rfl, .ref a, rfl, a, _, rfl, .inl hS, k, _, rfl, rfl, _, rfl, ite2 (fun e => ?_) (fun e => ?_)⟩
    · have e1 : k < ((IL ns).length : Int) := of_decide_eq_true e
      rw [List.length_map] at e1
      obtain ⟨z, hz⟩ := at_lt h0 e1
      refine ⟨.ref a, rfl, .int k, rfl, a, _, k, .int z, rfl, rfl, hS, hz, ?_⟩
      exact fin z
    · exact fin 0
abbrev s_kept : Stmt := topS 1
abbrev n_kept : List Str := ["value"]
theorem sc_kept : FnScope n_kept ["value"] (defScope s_kept) := ⟨rfl, rfl, rfl, by decide +kernel, rfl, by decide +kernel, by decide +kernel⟩
theorem ok_kept {f : Addr} {fd : FuncData} (F : Fun K "kept" "kept" s_kept f fd) (B : Bi mg)     : FnOk P w K mg base CX0 1 f fd ["value"] (spD 1 p_kept) := by
  refine okD (k := 0) F sc_kept rfl (fun cdv A outer s H E hr => ?_) m_kept
  exact ⟨_, (pss_one (ps_ret (pe_ifExp (pt_truth (pe_callB (isiK (K := K) rfl) (by rfl) B.isinstance (by decide +kernel) (pa_cons (pv 0) (pa_cons (pe_bltn (v := .ty "list") (by rfl) B.list (by decide +kernel) rfl) pa_nil))) (by intro _; rfl)) (pe_callTy (tupleK (K := K) rfl) (by rfl) B.tuple (by decide +kernel) (pa_cons (pv 0) pa_nil)) (pv 0)))),
    (ss_ret (se_if (st_truth (se_isi (.inr (.inr (.inr (.inl rfl)))) se_var)) (se_cb rc_tuple (sa_cons se_var sa_nil)) se_var))⟩
abbrev s_state_of : Stmt := topS 6
abbrev n_state_of : List Str := ["pairs", "person", "target"]
theorem sc_state_of : FnScope n_state_of ["pairs"] (defScope s_state_of) := ⟨rfl, rfl, rfl, by decide +kernel, rfl, by decide +kernel, by decide +kernel⟩
theorem ok_state_of {f : Addr} {fd : FuncData} (F : Fun K "state_of" "state_of" s_state_of f fd) (B : Bi mg)     : FnOk P w K mg base CX0 1 f fd ["pairs"] (spD 1 p_state_of) := by
  refine okD (k := 0) F sc_state_of rfl (fun cdv A outer s H E hr => ?_) m_state_of
  exact ⟨_, (pss_one (ps_ret (pe_callTy (tupleK (K := K) rfl) (by rfl) B.tuple (by decide +kernel) (pa_cons (pe_lc (own := [("person", 1), ("target", 2)]) (by rfl) sc_state_of.nd (seqK (K := K) rfl (pe_callB (sortK (K := K) rfl) (by rfl) B.sorted (by decide +kernel) (pa_cons (pv 0) pa_nil))) (blkOk_by (own := [("person", 1), ("target", 2)]) (N := n_state_of) (sc := (defScope s_state_of)) (by decide +kernel)) (fun _ _ _ _ _ => (gtupK (K := K) rfl (pg_tup rfl (pgs_cons (pg_name (i := 1) sc_state_of.nd rfl (by first | exact Or.inl rfl | exact Or.inr rfl)) (pgs_cons (pg_name (i := 2) sc_state_of.nd rfl (by first | exact Or.inl rfl | exact Or.inr rfl)) pgs_nil))))) (fun _ _ _ _ _ => pts_nil) (fun _ _ _ _ _ => (pv 2))) pa_nil)))),
    (ss_ret (se_cb rc_tuple (sa_cons (se_lc (si_seq (se_cb rc_sorted (sa_cons se_var sa_nil))) (sg_tup (sgs_cons sg_name (sgs_cons sg_name sgs_nil))) st_yes se_var) sa_nil)))⟩
abbrev s_check_person : Stmt := topS 7
abbrev n_check_person : List Str := ["state", "person"]
theorem sc_check_person : FnScope n_check_person ["state", "person"] (defScope s_check_person) := ⟨rfl, rfl, rfl, by decide +kernel, rfl, by decide +kernel, by decide +kernel⟩
theorem ok_check_person {f : Addr} {fd : FuncData} (F : Fun K "check_person" "check_person" s_check_person f fd) (B : Bi mg)     : FnOk P w K mg base CX0 1 f fd ["state", "person"] (spD 2 p_check_person) := by
  refine okD (k := 0) F sc_check_person rfl (fun cdv A outer s H E hr => ?_) m_check_person
  exact ⟨_, (pss_one (ps_if (pt_not (pt_chain op_le op_lt pe_int (pv 1) (pe_callB (lenK (K := K) rfl) (by rfl) B.len (by decide +kernel) (pa_cons (pv 0) pa_nil)))) pss_never pss_nil)),
    (ss_if (st_not (st_test (se_chain r2_B r2_B se_int se_var (se_cb rc_len (sa_cons se_var sa_nil))))) ss_never ss_next)⟩
abbrev s_route_from : Stmt := topS 8
abbrev n_route_from : List Str := ["pointers", "person", "route", "seen", "at"]
theorem sc_route_from : FnScope n_route_from ["pointers", "person"] (defScope s_route_from) := ⟨rfl, rfl, rfl, by decide +kernel, rfl, by decide +kernel, by decide +kernel⟩
theorem ok_route_from {f : Addr} {fd : FuncData} (F : Fun K "route_from" "route_from" s_route_from f fd) (B : Bi mg)     : FnOk P w K mg base CX0 1 f fd ["pointers", "person"] (spD 2 p_route_from) := by
  refine okD (k := 0) F sc_route_from rfl (fun cdv A outer s H E hr => ?_) m_route_from
  exact ⟨_, (pss_cons (ps_set (i := 2) sc_route_from.nd rfl (by first | exact Or.inl rfl | exact Or.inr rfl) (pe_lst pa_nil))
      (pss_cons (ps_set (i := 3) sc_route_from.nd rfl (by first | exact Or.inl rfl | exact Or.inr rfl) (pe_callTy0 (set0K (w := w) rfl) (by rfl) B.set (by decide +kernel)))
      (pss_cons (ps_set (i := 4) sc_route_from.nd rfl (by first | exact Or.inl rfl | exact Or.inr rfl) (pv 1))
      (pss_cons (ps_while PassesOwn.never (PW.pt (pw_and (pt_cmpR op_notN (pv 4) pe_non (nomark _)) (pw_and1 (pt_cmpR (snotinK (w := w) rfl) (pv 4) (pv 3) (by rfl))))) (pss_cons (ps_expr (saddK (w := w) rfl (pe_sadd (pv 3) (pa_cons (pv 4) pa_nil))))
      (pss_cons (ps_expr (bmK (K := K) rfl (pe_bm PySem.F.plainAttrs_list PySem.F.slot_list_append PySem.F.type_list_append mt_append (pv 2) (pa_cons (pv 4) pa_nil))))
      (pss_one (ps_set (i := 4) sc_route_from.nd rfl (by first | exact Or.inl rfl | exact Or.inr rfl) (pe_ix (ixK (K := K) rfl) (pv 0) (pv 4) (fun _ _ => rfl)))))))
      (pss_one (ps_ret (pv 2))))))),
    (ss_seq (ss_set true (se_lst sa_nil))
      (ss_seq ss_set0
      (ss_seq (ss_set false se_var)
      (ss_seq (ss_while (st_and (st_test (se_op r2_notN se_var se_non)) (st_test (se_snotin se_var se_var))) (ss_seq (ss_sadd se_var)
      (ss_seq (ss_append se_var)
      (ss_set false (se_op r2_ix se_var se_var)))))
      (ss_ret se_var)))))⟩
abbrev s_turned : Stmt := topS 9
abbrev n_turned : List Str := ["members", "first", "at"]
theorem sc_turned : FnScope n_turned ["members", "first"] (defScope s_turned) := ⟨rfl, rfl, rfl, by decide +kernel, rfl, by decide +kernel, by decide +kernel⟩
theorem ok_turned {f : Addr} {fd : FuncData} (F : Fun K "turned" "turned" s_turned f fd) (B : Bi mg)     : FnOk P w K mg base CX0 1 f fd ["members", "first"] (spD 2 p_turned) := by
  refine okD (k := 0) F sc_turned rfl (fun cdv A outer s H E hr => ?_) m_turned
  exact ⟨_, (pss_cons (ps_set (i := 2) sc_turned.nd rfl (by first | exact Or.inl rfl | exact Or.inr rfl) (indexK (K := K) rfl (pe_index (pv 0) (pa_cons (pv 1) pa_nil))))
      (pss_one (ps_ret (pe_op (addK (K := K) rfl) (pe_slice (slK (K := K) rfl) (pv 0) (po_some (pv 2)) po_none) (pe_slice (slK (K := K) rfl) (pv 0) po_none (po_some (pv 2))))))),
    (ss_seq (ss_set false (se_index se_var se_var))
      (ss_ret (se_op r2_add (se_sl rs_sl se_var (so_some se_var) so_none) (se_sl rs_sl se_var so_none (so_some se_var)))))⟩
abbrev s_ring_begin : Stmt := topS 10
abbrev n_ring_begin : List Str := ["state", "route"]
theorem sc_ring_begin : FnScope n_ring_begin ["state", "route"] (defScope s_ring_begin) := ⟨rfl, rfl, rfl, by decide +kernel, rfl, by decide +kernel, by decide +kernel⟩
theorem ok_ring_begin {f : Addr} {fd : FuncData} (F : Fun K "ring_begin" "ring_begin" s_ring_begin f fd) (B : Bi mg)     : FnOk P w K mg base CX0 1 f fd ["state", "route"] (spD 2 p_ring_begin) := by
  refine okD (k := 0) F sc_ring_begin rfl (fun cdv A outer s H E hr => ?_) m_ring_begin
  exact ⟨_, (pss_one (ps_ret (indexK (K := K) rfl (pe_index (pv 1) (pa_cons (pe_ix (ixK (K := K) rfl) (pv 0) (pe_ix (ixK (K := K) rfl) (pv 1) (pe_un un_neg pe_int) (fun _ _ => rfl)) (fun _ _ => rfl)) pa_nil))))),
    (ss_ret (se_index se_var (se_op r2_ix se_var (se_op r2_ix se_var (se_un ru_neg se_int)))))⟩
abbrev s_ring_of : Stmt := topS 11
abbrev n_ring_of : List Str := ["state", "person", "route", "members"]
theorem sc_ring_of : FnScope n_ring_of ["state", "person"] (defScope s_ring_of) := ⟨rfl, rfl, rfl, by decide +kernel, rfl, by decide +kernel, by decide +kernel⟩
theorem ok_ring_of {f : Addr} {fd : FuncData} (F : Fun K "ring_of" "ring_of" s_ring_of f fd) (B : Bi mg) {f_check_person : Addr} {e_check_person : FuncData} (c_check_person : Cal P w K mg base "check_person" 1 ["state", "person"] (spD 2 p_check_person) f_check_person e_check_person) {f_route_from : Addr} {e_route_from : FuncData} (c_route_from : Cal P w K mg base "route_from" 1 ["pointers", "person"] (spD 2 p_route_from) f_route_from e_route_from) {f_ring_begin : Addr} {e_ring_begin : FuncData} (c_ring_begin : Cal P w K mg base "ring_begin" 1 ["state", "route"] (spD 2 p_ring_begin) f_ring_begin e_ring_begin) {f_turned : Addr} {e_turned : FuncData} (c_turned : Cal P w K mg base "turned" 1 ["members", "first"] (spD 2 p_turned) f_turned e_turned)    : FnOk P w K mg base CX0 2 f fd ["state", "person"] (spD 2 p_ring_of) := by
  refine okD (k := 1) F sc_ring_of rfl (fun cdv A outer s H E hr => ?_) m_ring_of
  exact ⟨_, (pss_cons (ps_expr (pe_call c_check_person.ok (hr.mono (by decide)) (by rfl) c_check_person.g c_check_person.kp c_check_person.bd .nil pass0 (pa_cons (pv 0) (pa_cons (pv 1) pa_nil))))
      (pss_cons (ps_set (i := 2) sc_ring_of.nd rfl (by first | exact Or.inl rfl | exact Or.inr rfl) (pe_call c_route_from.ok (hr.mono (by decide)) (by rfl) c_route_from.g c_route_from.kp c_route_from.bd .nil pass0 (pa_cons (pv 0) (pa_cons (pv 1) pa_nil))))
      (pss_cons (ps_set (i := 3) sc_ring_of.nd rfl (by first | exact Or.inl rfl | exact Or.inr rfl) (pe_slice (slK (K := K) rfl) (pv 2) (po_some (pe_call c_ring_begin.ok (hr.mono (by decide)) (by rfl) c_ring_begin.g c_ring_begin.kp c_ring_begin.bd .nil pass0 (pa_cons (pv 0) (pa_cons (pv 2) pa_nil)))) po_none))
      (pss_one (ps_ret (pe_callTy (tupleK (K := K) rfl) (by rfl) B.tuple (by decide +kernel) (pa_cons (pe_call c_turned.ok (hr.mono (by decide)) (by rfl) c_turned.g c_turned.kp c_turned.bd .nil pass0 (pa_cons (pv 3) (pa_cons (pe_callB (minK (K := K) rfl rfl) (by rfl) B.min (by decide +kernel) (pa_cons (pv 3) pa_nil)) pa_nil))) pa_nil))))))),
    (ss_seq (ss_drop (se_call mon_check_person (sa_cons se_var (sa_cons se_var sa_nil))))
      (ss_seq (ss_set false (se_call mon_route_from (sa_cons se_var (sa_cons se_var sa_nil))))
      (ss_seq (ss_set false (se_sl rs_sl se_var (so_some (se_call mon_ring_begin (sa_cons se_var (sa_cons se_var sa_nil)))) so_none))
      (ss_ret (se_cb rc_tuple (sa_cons (se_call mon_turned (sa_cons se_var (sa_cons (se_cb rc_min (sa_cons se_var sa_nil)) sa_nil))) sa_nil))))))⟩
abbrev s_check_size : Stmt := topS 14
abbrev n_check_size : List Str := ["state", "other"]
theorem sc_check_size : FnScope n_check_size ["state", "other"] (defScope s_check_size) := ⟨rfl, rfl, rfl, by decide +kernel, rfl, by decide +kernel, by decide +kernel⟩
theorem ok_check_size {f : Addr} {fd : FuncData} (F : Fun K "check_size" "check_size" s_check_size f fd) (B : Bi mg)     : FnOk P w K mg base CX0 1 f fd ["state", "other"] (spD 2 p_check_size) := by
  refine okD (k := 0) F sc_check_size rfl (fun cdv A outer s H E hr => ?_) m_check_size
  exact ⟨_, (pss_one (ps_if (pt_cmpR (neK (K := K) rfl hr.units) (pe_callB (lenK (K := K) rfl) (by rfl) B.len (by decide +kernel) (pa_cons (pv 1) pa_nil)) (pe_callB (lenK (K := K) rfl) (by rfl) B.len (by decide +kernel) (pa_cons (pv 0) pa_nil)) (nomark _)) pss_never pss_nil)),
    (ss_if (st_test (se_op r2_ne (se_cb rc_len (sa_cons se_var sa_nil)) (se_cb rc_len (sa_cons se_var sa_nil)))) ss_never ss_next)⟩
abbrev s_meets_first : Stmt := topS 15
abbrev n_meets_first : List Str := ["ring", "start", "early", "late", "order"]
theorem sc_meets_first : FnScope n_meets_first ["ring", "start", "early", "late"] (defScope s_meets_first) := ⟨rfl, rfl, rfl, by decide +kernel, rfl, by decide +kernel, by decide +kernel⟩
theorem ok_meets_first {f : Addr} {fd : FuncData} (F : Fun K "meets_first" "meets_first" s_meets_first f fd) (B : Bi mg) {f_turned : Addr} {e_turned : FuncData} (c_turned : Cal P w K mg base "turned" 1 ["members", "first"] (spD 2 p_turned) f_turned e_turned)    : FnOk P w K mg base CX0 2 f fd ["ring", "start", "early", "late"] (spD 4 p_meets_first) := by
  refine okD (k := 1) F sc_meets_first rfl (fun cdv A outer s H E hr => ?_) m_meets_first
  exact ⟨_, (pss_cons (ps_set (i := 4) sc_meets_first.nd rfl (by first | exact Or.inl rfl | exact Or.inr rfl) (pe_call c_turned.ok (hr.mono (by decide)) (by rfl) c_turned.g c_turned.kp c_turned.bd .nil pass0 (pa_cons (pv 0) (pa_cons (pv 1) pa_nil))))
      (pss_one (ps_ret (pe_cmpR op_lt (indexK (K := K) rfl (pe_index (pv 4) (pa_cons (pv 2) pa_nil))) (indexK (K := K) rfl (pe_index (pv 4) (pa_cons (pv 3) pa_nil))) (nomark _))))),
    (ss_seq (ss_set false (se_call mon_turned (sa_cons se_var (sa_cons se_var sa_nil))))
      (ss_ret (se_op r2_B (se_index se_var se_var) (se_index se_var se_var))))⟩
abbrev s_order_broken : Stmt := topS 16
abbrev n_order_broken : List Str := ["members", "ring", "early", "late"]
theorem sc_order_broken : FnScope n_order_broken ["members", "ring"] (defScope s_order_broken) := ⟨rfl, rfl, rfl, by decide +kernel, rfl, by decide +kernel, by decide +kernel⟩
theorem ok_order_broken {f : Addr} {fd : FuncData} (F : Fun K "order_broken" "order_broken" s_order_broken f fd) (B : Bi mg) {f_meets_first : Addr} {e_meets_first : FuncData} (c_meets_first : Cal P w K mg base "meets_first" 2 ["ring", "start", "early", "late"] (spD 4 p_meets_first) f_meets_first e_meets_first)    : FnOk P w K mg base CX0 3 f fd ["members", "ring"] (spD 2 p_order_broken) := by
  refine okD (k := 2) F sc_order_broken rfl (fun cdv A outer s H E hr => ?_) m_order_broken
  exact ⟨_, (pss_cons (ps_for PassesOwn.never rfl (zipA (K := K) rfl (by rfl) B.zip (pa_cons (pe_slice (slK (K := K) rfl) (pv 0) (po_some pe_int) po_none) (pa_cons (pe_slice (slK (K := K) rfl) (pv 0) (po_some pe_int) po_none) pa_nil))) (gtupK (K := K) rfl (pg_tup rfl (pgs_cons (pg_name (i := 2) sc_order_broken.nd rfl (by first | exact Or.inl rfl | exact Or.inr rfl)) (pgs_cons (pg_name (i := 3) sc_order_broken.nd rfl (by first | exact Or.inl rfl | exact Or.inr rfl)) pgs_nil)))) (pss_one (ps_if (pt_truth (pe_call c_meets_first.ok (hr.mono (by decide)) (by rfl) c_meets_first.g c_meets_first.kp c_meets_first.bd .nil pass0 (pa_cons (pv 1) (pa_cons (pe_ix (ixK (K := K) rfl) (pv 0) pe_int (fun _ _ => rfl)) (pa_cons (pv 3) (pa_cons (pv 2) pa_nil))))) (by intro _; rfl)) (pss_one (ps_ret (pe_tupS (pa_cons pe_str (pa_cons (pe_ix (ixK (K := K) rfl) (pv 0) pe_int (fun _ _ => rfl)) (pa_cons (pv 2) (pa_cons (pv 3) pa_nil))))))) pss_nil)))
      (pss_one (ps_ret pe_non))),
    (ss_seq (ss_for (si_zip (sa_cons (se_sl rs_sl se_var (so_some se_int) so_none) (sa_cons (se_sl rs_sl se_var (so_some se_int) so_none) sa_nil))) (sg_tup (sgs_cons sg_name (sgs_cons sg_name sgs_nil))) (ss_if (st_truth (se_call mon_meets_first (sa_cons se_var (sa_cons (se_op r2_ix se_var se_int) (sa_cons se_var (sa_cons se_var sa_nil)))))) (ss_ret (se_tup (sa_cons se_str (sa_cons (se_op r2_ix se_var se_int) (sa_cons se_var (sa_cons se_var sa_nil)))))) ss_next))
      (ss_ret se_non))⟩
abbrev s_ring_state : Stmt := topS 18
abbrev n_ring_state : List Str := ["laps", "pairs", "lap"]
theorem sc_ring_state : FnScope n_ring_state ["laps"] (defScope s_ring_state) := ⟨rfl, rfl, rfl, by decide +kernel, rfl, by decide +kernel, by decide +kernel⟩
theorem ok_ring_state {f : Addr} {fd : FuncData} (F : Fun K "ring_state" "ring_state" s_ring_state f fd) (B : Bi mg) {f_state_of : Addr} {e_state_of : FuncData} (c_state_of : Cal P w K mg base "state_of" 1 ["pairs"] (spD 1 p_state_of) f_state_of e_state_of)    : FnOk P w K mg base CX0 2 f fd ["laps"] (spD 1 p_ring_state) := by
  refine okD (k := 1) F sc_ring_state rfl (fun cdv A outer s H E hr => ?_) m_ring_state
  exact ⟨_, (pss_cons (ps_set (i := 1) sc_ring_state.nd rfl (by first | exact Or.inl rfl | exact Or.inr rfl) (pe_lst pa_nil))
      (pss_cons (ps_for PassesOwn.never rfl (seqK (K := K) rfl (pv 0)) (pg_name (i := 2) sc_ring_state.nd rfl (by first | exact Or.inl rfl | exact Or.inr rfl)) (pss_one (ps_aug (i := 1) sc_ring_state.nd rfl (by first | exact Or.inl rfl | exact Or.inr rfl) (lzK (K := K) rfl (pe_listZip (by rfl) B.list (by rfl) B.zip (pa_cons (pv 2) (pa_cons (pe_op (addK (K := K) rfl) (pe_slice (slK (K := K) rfl) (pv 2) (po_some pe_int) po_none) (pe_slice (slK (K := K) rfl) (pv 2) po_none (po_some pe_int))) pa_nil)))) (ipR iop_ext))))
      (pss_one (ps_ret (pe_call c_state_of.ok (hr.mono (by decide)) (by rfl) c_state_of.g c_state_of.kp c_state_of.bd .nil pass0 (pa_cons (pv 1) pa_nil)))))),
    (ss_seq (ss_set true (se_lst sa_nil))
      (ss_seq (ss_for (si_seq se_var) sg_name (ss_ext (se_listZip (sa_cons se_var (sa_cons (se_op r2_add (se_sl rs_sl se_var (so_some se_int) so_none) (se_sl rs_sl se_var so_none (so_some se_int))) sa_nil)))))
      (ss_pub (i := 1) (ss_ret (se_call mon_state_of (sa_cons se_var sa_nil))))))⟩
abbrev s_shared_members : Stmt := topS 21
abbrev n_shared_members : List Str := ["one", "other", "person", "ring", "shared", "member"]
theorem sc_shared_members : FnScope n_shared_members ["one", "other", "person"] (defScope s_shared_members) := ⟨rfl, rfl, rfl, by decide +kernel, rfl, by decide +kernel, by decide +kernel⟩
theorem ok_shared_members {f : Addr} {fd : FuncData} (F : Fun K "shared_members" "shared_members" s_shared_members f fd) (B : Bi mg) {f_ring_of : Addr} {e_ring_of : FuncData} (c_ring_of : Cal P w K mg base "ring_of" 2 ["state", "person"] (spD 2 p_ring_of) f_ring_of e_ring_of) {f_turned : Addr} {e_turned : FuncData} (c_turned : Cal P w K mg base "turned" 1 ["members", "first"] (spD 2 p_turned) f_turned e_turned)    : FnOk P w K mg base CX0 3 f fd ["one", "other", "person"] (spD 3 p_shared_members) := by
  refine okD (k := 2) F sc_shared_members rfl (fun cdv A outer s H E hr => ?_) m_shared_members
  exact ⟨_, (pss_cons (ps_set (i := 3) sc_shared_members.nd rfl (by first | exact Or.inl rfl | exact Or.inr rfl) (pe_call c_ring_of.ok (hr.mono (by decide)) (by rfl) c_ring_of.g c_ring_of.kp c_ring_of.bd .nil pass0 (pa_cons (pv 1) (pa_cons (pv 2) pa_nil))))
      (pss_cons (ps_setLc (i := 4) (own := [("member", 5)]) (by rfl) sc_shared_members.nd rfl rfl (sw_true rfl rfl rfl (by decide +kernel)) (seqK (K := K) rfl (pe_call c_ring_of.ok (hr.mono (by decide)) (by rfl) c_ring_of.g c_ring_of.kp c_ring_of.bd .nil pass0 (pa_cons (pv 0) (pa_cons (pv 2) pa_nil)))) (blkOk_by (own := [("member", 5)]) (N := n_shared_members) (sc := (defScope s_shared_members)) (by decide +kernel)) (fun _ _ _ _ _ => (pg_name (i := 5) sc_shared_members.nd rfl (by first | exact Or.inl rfl | exact Or.inr rfl))) (fun _ _ _ _ _ => (pts_one (pt_cmpR (inK (K := K) rfl (hu65 hr)) (pv 5) (pv 3) (by rfl)))) (fun _ _ _ _ _ => (pv 5)))
      (pss_one (ps_ret (pe_ifExp (pt_truth (pv 4) (by intro _; rfl)) (pe_call c_turned.ok (hr.mono (by decide)) (by rfl) c_turned.g c_turned.kp c_turned.bd .nil pass0 (pa_cons (pv 4) (pa_cons (pe_callB (minK (K := K) rfl rfl) (by rfl) B.min (by decide +kernel) (pa_cons (pv 4) pa_nil)) pa_nil))) (pe_lst pa_nil)))))),
    (ss_seq (ss_set false (se_call mon_ring_of (sa_cons se_var (sa_cons se_var sa_nil))))
      (ss_seq (ss_set false (se_lc (si_seq (se_call mon_ring_of (sa_cons se_var (sa_cons se_var sa_nil)))) sg_name (st_test (se_op r2_in se_var se_var)) se_var))
      (ss_ret (se_if (st_truth se_var) (se_call mon_turned (sa_cons se_var (sa_cons (se_cb rc_min (sa_cons se_var sa_nil)) sa_nil))) (se_lst sa_nil)))))⟩
abbrev s_merged : Stmt := topS 23
abbrev n_merged : List Str := ["one_ring", "other_ring", "waiting", "members", "person"]
theorem sc_merged : FnScope n_merged ["one_ring", "other_ring"] (defScope s_merged) := ⟨rfl, rfl, rfl, by decide +kernel, rfl, by decide +kernel, by decide +kernel⟩
theorem ok_merged {f : Addr} {fd : FuncData} (F : Fun K "merged" "merged" s_merged f fd) (B : Bi mg)     : FnOk P w K mg base CX0 1 f fd ["one_ring", "other_ring"] (spD 2 p_merged) := by
  refine okD (k := 0) F sc_merged rfl (fun cdv A outer s H E hr => ?_) m_merged
  exact ⟨_, (pss_cons (ps_set (i := 2) sc_merged.nd rfl (by first | exact Or.inl rfl | exact Or.inr rfl) (pe_callTy (listK (K := K) rfl) (by rfl) B.list (by decide +kernel) (pa_cons (pv 1) pa_nil)))
      (pss_cons (ps_set (i := 3) sc_merged.nd rfl (by first | exact Or.inl rfl | exact Or.inr rfl) (pe_lst pa_nil))
      (pss_cons (ps_for PassesOwn.never rfl (seqK (K := K) rfl (pv 0)) (pg_name (i := 4) sc_merged.nd rfl (by first | exact Or.inl rfl | exact Or.inr rfl)) (pss_cons (ps_while PassesOwn.never (pt_cmpR (inK (K := K) rfl (hu65 hr)) (pv 4) (pv 2) (by rfl)) (pss_one (ps_expr (bmK (K := K) rfl (pe_bm PySem.F.plainAttrs_list PySem.F.slot_list_append PySem.F.type_list_append mt_append (pv 3) (pa_cons (bmK (K := K) rfl (pe_bm PySem.F.plainAttrs_list PySem.F.slot_list_pop PySem.F.type_list_pop mt_popAt (pv 2) (pa_cons pe_int pa_nil))) pa_nil))))))
      (pss_one (ps_if (pt_cmpR (notInK (K := K) rfl (hu65 hr)) (pv 4) (pv 1) (by rfl)) (pss_one (ps_expr (bmK (K := K) rfl (pe_bm PySem.F.plainAttrs_list PySem.F.slot_list_append PySem.F.type_list_append mt_append (pv 3) (pa_cons (pv 4) pa_nil))))) pss_nil))))
      (pss_one (ps_ret (pe_op (addK (K := K) rfl) (pv 3) (pv 2))))))),
    (ss_seq (ss_set true (se_cb rc_list (sa_cons se_var sa_nil)))
      (ss_seq (ss_set true (se_lst sa_nil))
      (ss_seq (ss_for (si_seq se_var) sg_name (ss_seq (ss_while (st_test (se_op r2_in se_var se_var)) (ss_appPop (by decide) se_int))
      (ss_if (st_test (se_op r2_notIn se_var se_var)) (ss_append se_var) ss_next)))
      (ss_ret (se_op r2_add se_var se_var)))))⟩
abbrev s_common_lap : Stmt := topS 24
abbrev n_common_lap : List Str := ["one", "other", "group", "one_ring", "other_ring", "shared", "members", "person"]
theorem sc_common_lap : FnScope n_common_lap ["one", "other", "group"] (defScope s_common_lap) := ⟨rfl, rfl, rfl, by decide +kernel, rfl, by decide +kernel, by decide +kernel⟩
theorem ok_common_lap {f : Addr} {fd : FuncData} (F : Fun K "common_lap" "common_lap" s_common_lap f fd) (B : Bi mg) {f_ring_of : Addr} {e_ring_of : FuncData} (c_ring_of : Cal P w K mg base "ring_of" 2 ["state", "person"] (spD 2 p_ring_of) f_ring_of e_ring_of) {f_shared_members : Addr} {e_shared_members : FuncData} (c_shared_members : Cal P w K mg base "shared_members" 3 ["one", "other", "person"] (spD 3 p_shared_members) f_shared_members e_shared_members) {f_turned : Addr} {e_turned : FuncData} (c_turned : Cal P w K mg base "turned" 1 ["members", "first"] (spD 2 p_turned) f_turned e_turned) {f_merged : Addr} {e_merged : FuncData} (c_merged : Cal P w K mg base "merged" 1 ["one_ring", "other_ring"] (spD 2 p_merged) f_merged e_merged)    : FnOk P w K mg base CX0 4 f fd ["one", "other", "group"] (spD 3 p_common_lap) := by
  refine okD (k := 3) F sc_common_lap rfl (fun cdv A outer s H E hr => ?_) m_common_lap
  exact ⟨_, (pss_cons (ps_set (i := 3) sc_common_lap.nd rfl (by first | exact Or.inl rfl | exact Or.inr rfl) (pe_call c_ring_of.ok (hr.mono (by decide)) (by rfl) c_ring_of.g c_ring_of.kp c_ring_of.bd .nil pass0 (pa_cons (pv 0) (pa_cons (pe_ix (ixK (K := K) rfl) (pv 2) pe_int (fun _ _ => rfl)) pa_nil))))
      (pss_cons (ps_set (i := 4) sc_common_lap.nd rfl (by first | exact Or.inl rfl | exact Or.inr rfl) (pe_call c_ring_of.ok (hr.mono (by decide)) (by rfl) c_ring_of.g c_ring_of.kp c_ring_of.bd .nil pass0 (pa_cons (pv 1) (pa_cons (pe_ix (ixK (K := K) rfl) (pv 2) pe_int (fun _ _ => rfl)) pa_nil))))
      (pss_cons (ps_set (i := 5) sc_common_lap.nd rfl (by first | exact Or.inl rfl | exact Or.inr rfl) (pe_call c_shared_members.ok (hr.mono (by decide)) (by rfl) c_shared_members.g c_shared_members.kp c_shared_members.bd .nil pass0 (pa_cons (pv 0) (pa_cons (pv 1) (pa_cons (pe_ix (ixK (K := K) rfl) (pv 2) pe_int (fun _ _ => rfl)) pa_nil)))))
      (pss_cons (ps_if (pt_truth (pv 5) (by intro _; rfl)) (pss_cons (ps_set (i := 3) sc_common_lap.nd rfl (by first | exact Or.inl rfl | exact Or.inr rfl) (pe_call c_turned.ok (hr.mono (by decide)) (by rfl) c_turned.g c_turned.kp c_turned.bd .nil pass0 (pa_cons (pv 3) (pa_cons (pe_ix (ixK (K := K) rfl) (pv 5) pe_int (fun _ _ => rfl)) pa_nil))))
      (pss_one (ps_set (i := 4) sc_common_lap.nd rfl (by first | exact Or.inl rfl | exact Or.inr rfl) (pe_call c_turned.ok (hr.mono (by decide)) (by rfl) c_turned.g c_turned.kp c_turned.bd .nil pass0 (pa_cons (pv 4) (pa_cons (pe_ix (ixK (K := K) rfl) (pv 5) pe_int (fun _ _ => rfl)) pa_nil)))))) pss_nil)
      (pss_cons (ps_set (i := 6) sc_common_lap.nd rfl (by first | exact Or.inl rfl | exact Or.inr rfl) (pe_call c_merged.ok (hr.mono (by decide)) (by rfl) c_merged.g c_merged.kp c_merged.bd .nil pass0 (pa_cons (pv 3) (pa_cons (pv 4) pa_nil))))
      (pss_one (ps_ret (pe_op (addK (K := K) rfl) (pv 6) (pe_lc (own := [("person", 7)]) (by rfl) sc_common_lap.nd (seqK (K := K) rfl (pv 2)) (blkOk_by (own := [("person", 7)]) (N := n_common_lap) (sc := (defScope s_common_lap)) (by decide +kernel)) (fun _ _ _ _ _ => (pg_name (i := 7) sc_common_lap.nd rfl (by first | exact Or.inl rfl | exact Or.inr rfl))) (fun _ _ _ _ _ => (pts_one (pt_cmpR (notInK (K := K) rfl (hu65 hr)) (pv 7) (pv 6) (by rfl)))) (fun _ _ _ _ _ => (pv 7))))))))))),
    (ss_seq (ss_set false (se_call mon_ring_of (sa_cons se_var (sa_cons (se_op r2_ix se_var se_int) sa_nil))))
      (ss_seq (ss_set false (se_call mon_ring_of (sa_cons se_var (sa_cons (se_op r2_ix se_var se_int) sa_nil))))
      (ss_seq (ss_set false (se_call mon_shared_members (sa_cons se_var (sa_cons se_var (sa_cons (se_op r2_ix se_var se_int) sa_nil)))))
      (ss_seq (ss_if (st_truth se_var) (ss_seq (ss_set false (se_call mon_turned (sa_cons se_var (sa_cons (se_op r2_ix se_var se_int) sa_nil))))
      (ss_set false (se_call mon_turned (sa_cons se_var (sa_cons (se_op r2_ix se_var se_int) sa_nil))))) ss_next)
      (ss_seq (ss_set false (se_call mon_merged (sa_cons se_var (sa_cons se_var sa_nil))))
      (ss_ret (se_op r2_add se_var (se_lc (si_seq se_var) sg_name (st_test (se_op r2_notIn se_var se_var)) se_var))))))))⟩
abbrev s_law_pick : Stmt := topS 29
abbrev n_law_pick : List Str := ["_law_box_here", "_law_some"]
theorem sc_law_pick : FnScope n_law_pick ["_law_box_here", "_law_some"] (defScope s_law_pick) := ⟨rfl, rfl, rfl, by decide +kernel, rfl, by decide +kernel, by decide +kernel⟩
theorem ok_law_pick {f : Addr} {fd : FuncData} (F : Fun K "_law_pick" "_law_pick" s_law_pick f fd) (B : Bi mg) {f_law_take : Addr} {e_law_take : FuncData} (c_law_take : Cal P w K mg base "_law_take" 2 ["_law_box_here", "_law_below"] (spD 2 p_law_take) f_law_take e_law_take)    : FnOk P w K mg base CX0 3 f fd ["_law_box_here", "_law_some"] (spD 2 p_law_pick) := by
  refine okD (k := 2) F sc_law_pick rfl (fun cdv A outer s H E hr => ?_) m_law_pick
  exact ⟨_, (pss_one (ps_ret (pe_ix (ixK (K := K) rfl) (pv 1) (pe_call c_law_take.ok (hr.mono (by decide)) (by rfl) c_law_take.g c_law_take.kp c_law_take.bd .nil pass0 (pa_cons (pv 0) (pa_cons (pe_callB (lenK (K := K) rfl) (by rfl) B.len (by decide +kernel) (pa_cons (pv 1) pa_nil)) pa_nil))) (fun _ _ => rfl)))),
    (ss_ret (se_op r2_ix se_var (se_call mon_law_take (sa_cons se_var (sa_cons (se_cb rc_len (sa_cons se_var sa_nil)) sa_nil)))))⟩
abbrev s_law_strewn : Stmt := topS 30
abbrev n_law_strewn : List Str := ["_law_box_here", "_law_some", "_law_left", "_law_found", "_law_turn"]
theorem sc_law_strewn : FnScope n_law_strewn ["_law_box_here", "_law_some"] (defScope s_law_strewn) := ⟨rfl, rfl, rfl, by decide +kernel, rfl, by decide +kernel, by decide +kernel⟩
theorem ok_law_strewn {f : Addr} {fd : FuncData} (F : Fun K "_law_strewn" "_law_strewn" s_law_strewn f fd) (B : Bi mg) {f_law_take : Addr} {e_law_take : FuncData} (c_law_take : Cal P w K mg base "_law_take" 2 ["_law_box_here", "_law_below"] (spD 2 p_law_take) f_law_take e_law_take)    : FnOk P w K mg base CX0 3 f fd ["_law_box_here", "_law_some"] (spD 2 p_law_strewn) := by
  refine okD (k := 2) F sc_law_strewn rfl (fun cdv A outer s H E hr => ?_) m_law_strewn
  exact ⟨_, (pss_cons (ps_par (i := 2) (j := 3) (by rfl) sc_law_strewn.nd rfl rfl (by decide) rfl rfl (pa_cons (pe_callTy (listK (K := K) rfl) (by rfl) B.list (by decide +kernel) (pa_cons (pv 1) pa_nil)) (pa_cons (pe_lst pa_nil) pa_nil)) (by rfl))
      (pss_cons (ps_for PassesOwn.never rfl (pi_range1 (by rfl) B.range (pa_cons (pe_callB (lenK (K := K) rfl) (by rfl) B.len (by decide +kernel) (pa_cons (pv 2) pa_nil)) pa_nil)) (pg_name (i := 4) sc_law_strewn.nd rfl (by first | exact Or.inl rfl | exact Or.inr rfl)) (pss_one (ps_expr (bmK (K := K) rfl (pe_bm PySem.F.plainAttrs_list PySem.F.slot_list_append PySem.F.type_list_append mt_append (pv 3) (pa_cons (bmK (K := K) rfl (pe_bm PySem.F.plainAttrs_list PySem.F.slot_list_pop PySem.F.type_list_pop mt_popAt (pv 2) (pa_cons (pe_call c_law_take.ok (hr.mono (by decide)) (by rfl) c_law_take.g c_law_take.kp c_law_take.bd .nil pass0 (pa_cons (pv 0) (pa_cons (pe_callB (lenK (K := K) rfl) (by rfl) B.len (by decide +kernel) (pa_cons (pv 2) pa_nil)) pa_nil))) pa_nil))) pa_nil))))))
      (pss_one (ps_ret (pv 3))))),
    (ss_seq (ss_par (se_cb rc_list (sa_cons se_var sa_nil)) (se_lst sa_nil))
      (ss_seq (ss_for (si_rng1 (sa_cons (se_cb rc_len (sa_cons se_var sa_nil)) sa_nil)) sg_name (ss_appPop (by decide) (se_call mon_law_take (sa_cons se_var (sa_cons (se_cb rc_len (sa_cons se_var sa_nil)) sa_nil)))))
      (ss_ret se_var)))⟩
abbrev s_law_net_of : Stmt := topS 31
abbrev n_law_net_of : List Str := ["_law_box_here", "_law_length", "_law_kind", "_law_row", "_law_turn_at", "_law_found", "_law_at", "_law_who"]
theorem sc_law_net_of : FnScope n_law_net_of ["_law_box_here", "_law_length", "_law_kind"] (defScope s_law_net_of) := ⟨rfl, rfl, rfl, by decide +kernel, rfl, by decide +kernel, by decide +kernel⟩
theorem ok_law_net_of {f : Addr} {fd : FuncData} (F : Fun K "_law_net_of" "_law_net_of" s_law_net_of f fd) (B : Bi mg) {f_law_strewn : Addr} {e_law_strewn : FuncData} (c_law_strewn : Cal P w K mg base "_law_strewn" 3 ["_law_box_here", "_law_some"] (spD 2 p_law_strewn) f_law_strewn e_law_strewn) {f_law_take : Addr} {e_law_take : FuncData} (c_law_take : Cal P w K mg base "_law_take" 2 ["_law_box_here", "_law_below"] (spD 2 p_law_take) f_law_take e_law_take)    : FnOk P w K mg base CX0 4 f fd ["_law_box_here", "_law_length", "_law_kind"] (spD 3 p_law_net_of) := by
  refine okD (k := 3) F sc_law_net_of rfl (fun cdv A outer s H E hr => ?_) m_law_net_of
  exact ⟨_, (pss_cons (ps_set (i := 3) sc_law_net_of.nd rfl (by first | exact Or.inl rfl | exact Or.inr rfl) (pe_call c_law_strewn.ok (hr.mono (by decide)) (by rfl) c_law_strewn.g c_law_strewn.kp c_law_strewn.bd .nil pass0 (pa_cons (pv 0) (pa_cons (pe_listRg rfl (by rfl) B.list (prg_1 (by rfl) B.range (pv 1))) pa_nil))))
      (pss_cons (ps_set (i := 4) sc_law_net_of.nd rfl (by first | exact Or.inl rfl | exact Or.inr rfl) (pe_ix (ixK (K := K) rfl) (pe_lst (pa_cons pe_int (pa_cons (pv 1) (pa_cons pe_int (pa_cons (pe_op (addK (K := K) rfl) pe_int (pe_call c_law_take.ok (hr.mono (by decide)) (by rfl) c_law_take.g c_law_take.kp c_law_take.bd .nil pass0 (pa_cons (pv 0) (pa_cons (pv 1) pa_nil)))) (pa_cons (pv 1) (pa_cons pe_int pa_nil))))))) (pv 2) (fun _ _ => rfl)))
      (pss_cons (ps_if (pt_cmpR (eqK (K := K) rfl hr.units) (pv 2) pe_int (nomark _)) (pss_one (ps_ret (pe_callTy (tupleK (K := K) rfl) (by rfl) B.tuple (by decide +kernel) (pa_cons (pv 3) pa_nil)))) pss_nil)
      (pss_cons (ps_set (i := 5) sc_law_net_of.nd rfl (by first | exact Or.inl rfl | exact Or.inr rfl) (pe_op op_mulA (pe_lst (pa_cons pe_int pa_nil)) (pv 1)))
      (pss_cons (ps_for PassesOwn.never rfl (enumA2 (K := K) rfl (by rfl) B.enumerate (pa_cons (pv 3) pa_nil)) (gtupK (K := K) rfl (pg_tup rfl (pgs_cons (pg_name (i := 6) sc_law_net_of.nd rfl (by first | exact Or.inl rfl | exact Or.inr rfl)) (pgs_cons (pg_name (i := 7) sc_law_net_of.nd rfl (by first | exact Or.inl rfl | exact Or.inr rfl)) pgs_nil)))) (pss_one (ps_if (pt_cmpR (eqK (K := K) rfl hr.units) (pv 2) pe_int (nomark _)) (pss_one (ps_asg (pe_call c_law_take.ok (hr.mono (by decide)) (by rfl) c_law_take.g c_law_take.kp c_law_take.bd .nil pass0 (pa_cons (pv 0) (pa_cons (pv 1) pa_nil))) (pg_sub (pv 5) (pv 7) set_list))) (pss_one (ps_if (pt_cmpR op_lt (pv 6) (pv 4) (nomark _)) (pss_one (ps_asg (pe_ix (ixK (K := K) rfl) (pv 3) (pe_op op_mod (pe_op (addK (K := K) rfl) (pv 6) pe_int) (pv 4)) (fun _ _ => rfl)) (pg_sub (pv 5) (pv 7) set_list))) (pss_one (ps_asg (pe_ifExp (pt_cmpR (eqK (K := K) rfl hr.units) (pv 2) pe_int (nomark _)) (pe_ix (ixK (K := K) rfl) (pv 3) (pe_op op_sub (pv 6) pe_int) (fun _ _ => rfl)) (pe_ix (ixK (K := K) rfl) (pv 3) (pe_call c_law_take.ok (hr.mono (by decide)) (by rfl) c_law_take.g c_law_take.kp c_law_take.bd .nil pass0 (pa_cons (pv 0) (pa_cons (pv 6) pa_nil))) (fun _ _ => rfl))) (pg_sub (pv 5) (pv 7) set_list))))))))
      (pss_one (ps_ret (pe_callTy (tupleK (K := K) rfl) (by rfl) B.tuple (by decide +kernel) (pa_cons (pv 5) pa_nil))))))))),
    (ss_seq (ss_set false (se_call mon_law_strewn (sa_cons se_var (sa_cons (se_listRg se_var) sa_nil))))
      (ss_seq (ss_set false (se_op r2_ix (se_lst (sa_cons se_int (sa_cons se_var (sa_cons se_int (sa_cons (se_op r2_add se_int (se_call mon_law_take (sa_cons se_var (sa_cons se_var sa_nil)))) (sa_cons se_var (sa_cons se_int sa_nil))))))) se_var))
      (ss_seq (ss_if (st_test (se_op r2_eq se_var se_int)) (ss_ret (se_cb rc_tuple (sa_cons se_var sa_nil))) ss_next)
      (ss_seq (ss_set true (se_op r2_mul (se_lst (sa_cons se_int sa_nil)) se_var))
      (ss_seq (ss_for (si_enA (sa_cons se_var sa_nil)) (sg_tup (sgs_cons sg_name (sgs_cons sg_name sgs_nil))) (ss_if (st_test (se_op r2_eq se_var se_int)) (ss_setIx (se_call mon_law_take (sa_cons se_var (sa_cons se_var sa_nil))) se_var) (ss_if (st_test (se_op r2_B se_var se_var)) (ss_setIx (se_op r2_ix se_var (se_op r2_C (se_op r2_add se_var se_int) se_var)) se_var) (ss_setIx (se_if (st_test (se_op r2_eq se_var se_int)) (se_op r2_ix se_var (se_op r2_I se_var se_int)) (se_op r2_ix se_var (se_call mon_law_take (sa_cons se_var (sa_cons se_var sa_nil))))) se_var))))
      (ss_ret (se_cb rc_tuple (sa_cons se_var sa_nil))))))))⟩
abbrev s_law_any_net : Stmt := topS 32
abbrev n_law_any_net : List Str := ["_law_box_here", "_law_most"]
theorem sc_law_any_net : FnScope n_law_any_net ["_law_box_here", "_law_most"] (defScope s_law_any_net) := ⟨rfl, rfl, rfl, by decide +kernel, rfl, by decide +kernel, by decide +kernel⟩
theorem ok_law_any_net {f : Addr} {fd : FuncData} (F : Fun K "_law_any_net" "_law_any_net" s_law_any_net f fd) (B : Bi mg) {f_law_net_of : Addr} {e_law_net_of : FuncData} (c_law_net_of : Cal P w K mg base "_law_net_of" 4 ["_law_box_here", "_law_length", "_law_kind"] (spD 3 p_law_net_of) f_law_net_of e_law_net_of) {f_law_take : Addr} {e_law_take : FuncData} (c_law_take : Cal P w K mg base "_law_take" 2 ["_law_box_here", "_law_below"] (spD 2 p_law_take) f_law_take e_law_take)    : FnOk P w K mg base CX0 5 f fd ["_law_box_here", "_law_most"] (spD 2 p_law_any_net) := by
  refine okD (k := 4) F sc_law_any_net rfl (fun cdv A outer s H E hr => ?_) m_law_any_net
  exact ⟨_, (pss_one (ps_ret (pe_call c_law_net_of.ok (hr.mono (by decide)) (by rfl) c_law_net_of.g c_law_net_of.kp c_law_net_of.bd .nil pass0 (pa_cons (pv 0) (pa_cons (pe_op (addK (K := K) rfl) pe_int (pe_call c_law_take.ok (hr.mono (by decide)) (by rfl) c_law_take.g c_law_take.kp c_law_take.bd .nil pass0 (pa_cons (pv 0) (pa_cons (pv 1) pa_nil)))) (pa_cons (pe_call c_law_take.ok (hr.mono (by decide)) (by rfl) c_law_take.g c_law_take.kp c_law_take.bd .nil pass0 (pa_cons (pv 0) (pa_cons pe_int pa_nil))) pa_nil)))))),
    (ss_ret (se_call mon_law_net_of (sa_cons se_var (sa_cons (se_op r2_add se_int (se_call mon_law_take (sa_cons se_var (sa_cons se_var sa_nil)))) (sa_cons (se_call mon_law_take (sa_cons se_var (sa_cons se_int sa_nil))) sa_nil)))))⟩
abbrev s_law_walk : Stmt := topS 33
abbrev n_law_walk : List Str := ["_law_net", "_law_who", "_law_found", "_law_here"]
theorem sc_law_walk : FnScope n_law_walk ["_law_net", "_law_who"] (defScope s_law_walk) := ⟨rfl, rfl, rfl, by decide +kernel, rfl, by decide +kernel, by decide +kernel⟩
theorem ok_law_walk {f : Addr} {fd : FuncData} (F : Fun K "_law_walk" "_law_walk" s_law_walk f fd) (B : Bi mg)     : FnOk P w K mg base CX0 1 f fd ["_law_net", "_law_who"] (spD 2 p_law_walk) := by
  refine okD (k := 0) F sc_law_walk rfl (fun cdv A outer s H E hr => ?_) m_law_walk
  exact ⟨_, (pss_cons (ps_par (i := 2) (j := 3) (by rfl) sc_law_walk.nd rfl rfl (by decide) rfl rfl (pa_cons (pe_lst pa_nil) (pa_cons (pe_ix (ixK (K := K) rfl) (pv 0) (pv 1) (fun _ _ => rfl)) pa_nil)) (by rfl))
      (pss_cons (ps_while PassesOwn.never (pt_cmpR (notInK (K := K) rfl (hu65 hr)) (pv 3) (pv 2) (by rfl)) (pss_cons (ps_expr (bmK (K := K) rfl (pe_bm PySem.F.plainAttrs_list PySem.F.slot_list_append PySem.F.type_list_append mt_append (pv 2) (pa_cons (pv 3) pa_nil))))
      (pss_one (ps_set (i := 3) sc_law_walk.nd rfl (by first | exact Or.inl rfl | exact Or.inr rfl) (pe_ix (ixK (K := K) rfl) (pv 0) (pv 3) (fun _ _ => rfl))))))
      (pss_one (ps_ret (pv 2))))),
    (ss_seq (ss_par (se_lst sa_nil) (se_op r2_ix se_var se_var))
      (ss_seq (ss_while (st_test (se_op r2_notIn se_var se_var)) (ss_seq (ss_append se_var)
      (ss_set false (se_op r2_ix se_var se_var))))
      (ss_ret se_var)))⟩
abbrev s_law_ends : Stmt := topS 34
abbrev n_law_ends : List Str := ["_law_net", "_law_found", "_law_who", "_law_turn", "_law_lap", "_law_at"]
theorem sc_law_ends : FnScope n_law_ends ["_law_net"] (defScope s_law_ends) := ⟨rfl, rfl, rfl, by decide +kernel, rfl, by decide +kernel, by decide +kernel⟩
theorem ok_law_ends {f : Addr} {fd : FuncData} (F : Fun K "_law_ends" "_law_ends" s_law_ends f fd) (B : Bi mg) {f_law_walk : Addr} {e_law_walk : FuncData} (c_law_walk : Cal P w K mg base "_law_walk" 1 ["_law_net", "_law_who"] (spD 2 p_law_walk) f_law_walk e_law_walk)    : FnOk P w K mg base CX0 2 f fd ["_law_net"] (spD 1 p_law_ends) := by
  refine okD (k := 1) F sc_law_ends rfl (fun cdv A outer s H E hr => ?_) m_law_ends
  exact ⟨_, (pss_cons (ps_set (i := 1) sc_law_ends.nd rfl (by first | exact Or.inl rfl | exact Or.inr rfl) (pe_lst pa_nil))
      (pss_cons (ps_for PassesOwn.never rfl (pi_range1 (by rfl) B.range (pa_cons (pe_callB (lenK (K := K) rfl) (by rfl) B.len (by decide +kernel) (pa_cons (pv 0) pa_nil)) pa_nil)) (pg_name (i := 2) sc_law_ends.nd rfl (by first | exact Or.inl rfl | exact Or.inr rfl)) (pss_cons (ps_for PassesOwn.never rfl (pi_range1 (by rfl) B.range (pa_cons (pe_callB (lenK (K := K) rfl) (by rfl) B.len (by decide +kernel) (pa_cons (pv 0) pa_nil)) pa_nil)) (pg_name (i := 3) sc_law_ends.nd rfl (by first | exact Or.inl rfl | exact Or.inr rfl)) (pss_one (ps_set (i := 2) sc_law_ends.nd rfl (by first | exact Or.inl rfl | exact Or.inr rfl) (pe_ix (ixK (K := K) rfl) (pv 0) (pv 2) (fun _ _ => rfl)))))
      (pss_cons (ps_set (i := 4) sc_law_ends.nd rfl (by first | exact Or.inl rfl | exact Or.inr rfl) (pe_call c_law_walk.ok (hr.mono (by decide)) (by rfl) c_law_walk.g c_law_walk.kp c_law_walk.bd .nil pass0 (pa_cons (pv 0) (pa_cons (pv 2) pa_nil))))
      (pss_cons (ps_set (i := 5) sc_law_ends.nd rfl (by first | exact Or.inl rfl | exact Or.inr rfl) (indexK (K := K) rfl (pe_index (pv 4) (pa_cons (pe_callB (minK (K := K) rfl rfl) (by rfl) B.min (by decide +kernel) (pa_cons (pv 4) pa_nil)) pa_nil))))
      (pss_one (ps_expr (bmK (K := K) rfl (pe_bm PySem.F.plainAttrs_list PySem.F.slot_list_append PySem.F.type_list_append mt_append (pv 1) (pa_cons (pe_callTy (tupleK (K := K) rfl) (by rfl) B.tuple (by decide +kernel) (pa_cons (pe_op (addK (K := K) rfl) (pe_slice (slK (K := K) rfl) (pv 4) (po_some (pv 5)) po_none) (pe_slice (slK (K := K) rfl) (pv 4) po_none (po_some (pv 5)))) pa_nil)) pa_nil)))))))))
      (pss_one (ps_ret (pv 1))))),
    (ss_seq (ss_set true (se_lst sa_nil))
      (ss_seq (ss_for (si_rng1 (sa_cons (se_cb rc_len (sa_cons se_var sa_nil)) sa_nil)) sg_name (ss_seq (ss_for (si_rng1 (sa_cons (se_cb rc_len (sa_cons se_var sa_nil)) sa_nil)) sg_name (ss_set false (se_op r2_ix se_var se_var)))
      (ss_seq (ss_set false (se_call mon_law_walk (sa_cons se_var (sa_cons se_var sa_nil))))
      (ss_seq (ss_set false (se_index se_var (se_cb rc_min (sa_cons se_var sa_nil))))
      (ss_append (se_cb rc_tuple (sa_cons (se_op r2_add (se_sl rs_sl se_var (so_some se_var) so_none) (se_sl rs_sl se_var so_none (so_some se_var))) sa_nil)))))))
      (ss_ret se_var)))⟩
abbrev s_law_looked : Stmt := topS 35
abbrev n_law_looked : List Str := ["_law_net", "_law_who"]
theorem sc_law_looked : FnScope n_law_looked ["_law_net", "_law_who"] (defScope s_law_looked) := ⟨rfl, rfl, rfl, by decide +kernel, rfl, by decide +kernel, by decide +kernel⟩
theorem ok_law_looked {f : Addr} {fd : FuncData} (F : Fun K "_law_looked" "_law_looked" s_law_looked f fd) (B : Bi mg)     : FnOk P w K mg base CX0 1 f fd ["_law_net", "_law_who"] (spD 2 p_law_looked) := by
  refine okD (k := 0) F sc_law_looked rfl (fun cdv A outer s H E hr => ?_) m_law_looked
  exact ⟨_, (pss_one (ps_ret (pe_op (addK (K := K) rfl) (pe_op (addK (K := K) rfl) (pe_slice (slK (K := K) rfl) (pv 0) po_none (po_some (pv 1))) (pe_tupS (pa_cons (pe_ix (ixK (K := K) rfl) (pv 0) (pe_ix (ixK (K := K) rfl) (pv 0) (pv 1) (fun _ _ => rfl)) (fun _ _ => rfl)) pa_nil))) (pe_slice (slK (K := K) rfl) (pv 0) (po_some (pe_op (addK (K := K) rfl) (pv 1) pe_int)) po_none)))),
    (ss_ret (se_op r2_add (se_op r2_add (se_sl rs_sl se_var so_none (so_some se_var)) (se_tup (sa_cons (se_op r2_ix se_var (se_op r2_ix se_var se_var)) sa_nil))) (se_sl rs_sl se_var (so_some (se_op r2_add se_var se_int)) so_none)))⟩
abbrev s_law_toured : Stmt := topS 36
abbrev n_law_toured : List Str := ["_law_box_here", "_law_net", "_law_most", "_law_turn"]
theorem sc_law_toured : FnScope n_law_toured ["_law_box_here", "_law_net", "_law_most"] (defScope s_law_toured) := ⟨rfl, rfl, rfl, by decide +kernel, rfl, by decide +kernel, by decide +kernel⟩
theorem ok_law_toured {f : Addr} {fd : FuncData} (F : Fun K "_law_toured" "_law_toured" s_law_toured f fd) (B : Bi mg) {f_law_take : Addr} {e_law_take : FuncData} (c_law_take : Cal P w K mg base "_law_take" 2 ["_law_box_here", "_law_below"] (spD 2 p_law_take) f_law_take e_law_take) {f_law_looked : Addr} {e_law_looked : FuncData} (c_law_looked : Cal P w K mg base "_law_looked" 1 ["_law_net", "_law_who"] (spD 2 p_law_looked) f_law_looked e_law_looked)    : FnOk P w K mg base CX0 3 f fd ["_law_box_here", "_law_net", "_law_most"] (spD 3 p_law_toured) := by
  refine okD (k := 2) F sc_law_toured rfl (fun cdv A outer s H E hr => ?_) m_law_toured
  exact ⟨_, (pss_cons (ps_for PassesOwn.never rfl (pi_range1 (by rfl) B.range (pa_cons (pe_call c_law_take.ok (hr.mono (by decide)) (by rfl) c_law_take.g c_law_take.kp c_law_take.bd .nil pass0 (pa_cons (pv 0) (pa_cons (pe_op (addK (K := K) rfl) (pv 2) pe_int) pa_nil))) pa_nil)) (pg_name (i := 3) sc_law_toured.nd rfl (by first | exact Or.inl rfl | exact Or.inr rfl)) (pss_one (ps_set (i := 1) sc_law_toured.nd rfl (by first | exact Or.inl rfl | exact Or.inr rfl) (pe_call c_law_looked.ok (hr.mono (by decide)) (by rfl) c_law_looked.g c_law_looked.kp c_law_looked.bd .nil pass0 (pa_cons (pv 1) (pa_cons (pe_call c_law_take.ok (hr.mono (by decide)) (by rfl) c_law_take.g c_law_take.kp c_law_take.bd .nil pass0 (pa_cons (pv 0) (pa_cons (pe_callB (lenK (K := K) rfl) (by rfl) B.len (by decide +kernel) (pa_cons (pv 1) pa_nil)) pa_nil))) pa_nil))))))
      (pss_one (ps_ret (pv 1)))),
    (ss_seq (ss_for (si_rng1 (sa_cons (se_call mon_law_take (sa_cons se_var (sa_cons (se_op r2_add se_var se_int) sa_nil))) sa_nil)) sg_name (ss_set false (se_call mon_law_looked (sa_cons se_var (sa_cons (se_call mon_law_take (sa_cons se_var (sa_cons (se_cb rc_len (sa_cons se_var sa_nil)) sa_nil))) sa_nil)))))
      (ss_ret se_var))⟩
abbrev s_law_within : Stmt := topS 37
abbrev n_law_within : List Str := ["_law_box_here", "_law_net", "_law_ends_here", "_law_found", "_law_lap", "_law_crowd", "_law_who", "_law_part", "_law_at"]
theorem sc_law_within : FnScope n_law_within ["_law_box_here", "_law_net"] (defScope s_law_within) := ⟨rfl, rfl, rfl, by decide +kernel, rfl, by decide +kernel, by decide +kernel⟩
theorem ok_law_within {f : Addr} {fd : FuncData} (F : Fun K "_law_within" "_law_within" s_law_within f fd) (B : Bi mg) {f_law_ends : Addr} {e_law_ends : FuncData} (c_law_ends : Cal P w K mg base "_law_ends" 2 ["_law_net"] (spD 1 p_law_ends) f_law_ends e_law_ends) {f_law_net_of : Addr} {e_law_net_of : FuncData} (c_law_net_of : Cal P w K mg base "_law_net_of" 4 ["_law_box_here", "_law_length", "_law_kind"] (spD 3 p_law_net_of) f_law_net_of e_law_net_of) {f_law_pick : Addr} {e_law_pick : FuncData} (c_law_pick : Cal P w K mg base "_law_pick" 3 ["_law_box_here", "_law_some"] (spD 2 p_law_pick) f_law_pick e_law_pick)    : FnOk P w K mg base CX0 5 f fd ["_law_box_here", "_law_net"] (spD 2 p_law_within) := by
  refine okD (k := 4) F sc_law_within rfl (fun cdv A outer s H E hr => ?_) m_law_within
  exact ⟨_, (pss_cons (ps_asg (pe_tupS (pa_cons (pe_call c_law_ends.ok (hr.mono (by decide)) (by rfl) c_law_ends.g c_law_ends.kp c_law_ends.bd .nil pass0 (pa_cons (pv 1) pa_nil)) (pa_cons (pe_op op_mulA (pe_lst (pa_cons pe_int pa_nil)) (pe_callB (lenK (K := K) rfl) (by rfl) B.len (by decide +kernel) (pa_cons (pv 1) pa_nil))) pa_nil))) (gtupK (K := K) rfl (pg_tup rfl (pgs_cons (pg_name (i := 2) sc_law_within.nd rfl (by first | exact Or.inl rfl | exact Or.inr rfl)) (pgs_cons (pg_name (i := 3) sc_law_within.nd rfl (by first | exact Or.inl rfl | exact Or.inr rfl)) pgs_nil)))))
      (pss_cons (ps_for PassesOwn.never rfl (seqK (K := K) rfl (pe_callB (sortSK (K := K) (P := P) (w := w) rfl rfl rfl rfl) (by rfl) B.sorted (by decide +kernel) (pa_cons (pe_callTy (setTK (K := K) (P := P) (w := w) rfl rfl rfl rfl hr.units) (by rfl) B.set (by decide +kernel) (pa_cons (pv 2) pa_nil)) pa_nil))) (pg_name (i := 4) sc_law_within.nd rfl (by first | exact Or.inl rfl | exact Or.inr rfl)) (pss_cons (ps_setLc (i := 5) (own := [("_law_who", 6)]) (by rfl) sc_law_within.nd rfl rfl (sw_true rfl rfl rfl (by decide +kernel)) (pi_range1 (by rfl) B.range (pa_cons (pe_callB (lenK (K := K) rfl) (by rfl) B.len (by decide +kernel) (pa_cons (pv 1) pa_nil)) pa_nil)) (blkOk_by (own := [("_law_who", 6)]) (N := n_law_within) (sc := (defScope s_law_within)) (by decide +kernel)) (fun _ _ _ _ _ => (pg_name (i := 6) sc_law_within.nd rfl (by first | exact Or.inl rfl | exact Or.inr rfl))) (fun _ _ _ _ _ => (pts_one (pt_cmpR (eqK (K := K) rfl hr.units) (pe_ix (ixK (K := K) rfl) (pv 2) (pv 6) (fun _ _ => rfl)) (pv 4) (nomark _)))) (fun _ _ _ _ _ => (pv 6)))
      (pss_cons (ps_set (i := 7) sc_law_within.nd rfl (by first | exact Or.inl rfl | exact Or.inr rfl) (pe_call c_law_net_of.ok (hr.mono (by decide)) (by rfl) c_law_net_of.g c_law_net_of.kp c_law_net_of.bd .nil pass0 (pa_cons (pv 0) (pa_cons (pe_callB (lenK (K := K) rfl) (by rfl) B.len (by decide +kernel) (pa_cons (pv 5) pa_nil)) (pa_cons (pe_call c_law_pick.ok (hr.mono (by decide)) (by rfl) c_law_pick.g c_law_pick.kp c_law_pick.bd .nil pass0 (pa_cons (pv 0) (pa_cons (pe_lst (pa_cons pe_int (pa_cons pe_int (pa_cons pe_int (pa_cons pe_int (pa_cons pe_int pa_nil)))))) pa_nil))) pa_nil)))))
      (pss_one (ps_for PassesOwn.never rfl (enumA2 (K := K) rfl (by rfl) B.enumerate (pa_cons (pv 5) pa_nil)) (gtupK (K := K) rfl (pg_tup rfl (pgs_cons (pg_name (i := 8) sc_law_within.nd rfl (by first | exact Or.inl rfl | exact Or.inr rfl)) (pgs_cons (pg_name (i := 6) sc_law_within.nd rfl (by first | exact Or.inl rfl | exact Or.inr rfl)) pgs_nil)))) (pss_one (ps_asg (pe_ix (ixK (K := K) rfl) (pv 5) (pe_ix (ixK (K := K) rfl) (pv 7) (pv 8) (fun _ _ => rfl)) (fun _ _ => rfl)) (pg_sub (pv 3) (pv 6) set_list))))))))
      (pss_one (ps_ret (pe_callTy (tupleK (K := K) rfl) (by rfl) B.tuple (by decide +kernel) (pa_cons (pv 3) pa_nil)))))),
    (ss_seq (ss_parT (se_call mon_law_ends (sa_cons se_var sa_nil)) (se_op r2_mul (se_lst (sa_cons se_int sa_nil)) (se_cb rc_len (sa_cons se_var sa_nil))))
      (ss_seq (ss_for (si_seq (se_sortSet se_var)) sg_name (ss_seq (ss_set false (se_lc (si_rng1 (sa_cons (se_cb rc_len (sa_cons se_var sa_nil)) sa_nil)) sg_name (st_test (se_op r2_eq (se_op r2_ix se_var se_var) se_var)) se_var))
      (ss_seq (ss_set false (se_call mon_law_net_of (sa_cons se_var (sa_cons (se_cb rc_len (sa_cons se_var sa_nil)) (sa_cons (se_call mon_law_pick (sa_cons se_var (sa_cons (se_lst (sa_cons se_int (sa_cons se_int (sa_cons se_int (sa_cons se_int (sa_cons se_int sa_nil)))))) sa_nil))) sa_nil)))))
      (ss_for (si_enA (sa_cons se_var sa_nil)) (sg_tup (sgs_cons sg_name (sgs_cons sg_name sgs_nil))) (ss_setIx (se_op r2_ix se_var (se_op r2_ix se_var se_var)) se_var)))))
      (ss_ret (se_cb rc_tuple (sa_cons se_var sa_nil)))))⟩
abbrev s_law_is_led : Stmt := topS 38
abbrev n_law_is_led : List Str := ["_law_net", "_law_aim", "_law_who", "_law_to", "_law_olds", "_law_laps", "_law_lap", "_law_spots", "_law_falls", "_law_k", "_law_spot"]
theorem sc_law_is_led : FnScope n_law_is_led ["_law_net", "_law_aim"] (defScope s_law_is_led) := ⟨rfl, rfl, rfl, by decide +kernel, rfl, by decide +kernel, by decide +kernel⟩
theorem ok_law_is_led {f : Addr} {fd : FuncData} (F : Fun K "_law_is_led" "_law_is_led" s_law_is_led f fd) (B : Bi mg) {f_law_walk : Addr} {e_law_walk : FuncData} (c_law_walk : Cal P w K mg base "_law_walk" 1 ["_law_net", "_law_who"] (spD 2 p_law_walk) f_law_walk e_law_walk) {f_law_ends : Addr} {e_law_ends : FuncData} (c_law_ends : Cal P w K mg base "_law_ends" 2 ["_law_net"] (spD 1 p_law_ends) f_law_ends e_law_ends)    : FnOk P w K mg base CX0 3 f fd ["_law_net", "_law_aim"] (spD 2 p_law_is_led) := by
  refine okD (k := 2) F sc_law_is_led rfl (fun cdv A outer s H E hr => ?_) m_law_is_led
  exact ⟨_, (pss_cons (ps_if (pt_not (pt_truth (pe_callB (allK (K := K) rfl rfl) (by rfl) B.all (by decide +kernel) (pa_cons (pe_lc (own := [("_law_who", 2), ("_law_to", 3)]) (by rfl) sc_law_is_led.nd (enumA2 (K := K) rfl (by rfl) B.enumerate (pa_cons (pv 1) pa_nil)) (blkOk_by (own := [("_law_who", 2), ("_law_to", 3)]) (N := n_law_is_led) (sc := (defScope s_law_is_led)) (by decide +kernel)) (fun _ _ _ _ _ => (gtupK (K := K) rfl (pg_tup rfl (pgs_cons (pg_name (i := 2) sc_law_is_led.nd rfl (by first | exact Or.inl rfl | exact Or.inr rfl)) (pgs_cons (pg_name (i := 3) sc_law_is_led.nd rfl (by first | exact Or.inl rfl | exact Or.inr rfl)) pgs_nil))))) (fun _ _ _ _ _ => pts_nil) (fun _ _ _ _ _ => (pe_cmpR (inK (K := K) rfl (hu65 hr)) (pv 3) (pe_call c_law_walk.ok (hr.mono (by decide)) (by rfl) c_law_walk.g c_law_walk.kp c_law_walk.bd .nil pass0 (pa_cons (pv 0) (pa_cons (pv 2) pa_nil))) (by rfl)))) pa_nil)) (by intro _; rfl))) (pss_one (ps_ret pe_bl)) pss_nil)
      (pss_cons (ps_asg (pe_tupS (pa_cons (pe_call c_law_ends.ok (hr.mono (by decide)) (by rfl) c_law_ends.g c_law_ends.kp c_law_ends.bd .nil pass0 (pa_cons (pv 0) pa_nil)) (pa_cons (pe_callB (sortSK (K := K) (P := P) (w := w) rfl rfl rfl rfl) (by rfl) B.sorted (by decide +kernel) (pa_cons (pe_callTy (setTK (K := K) (P := P) (w := w) rfl rfl rfl rfl hr.units) (by rfl) B.set (by decide +kernel) (pa_cons (pe_call c_law_ends.ok (hr.mono (by decide)) (by rfl) c_law_ends.g c_law_ends.kp c_law_ends.bd .nil pass0 (pa_cons (pv 1) pa_nil)) pa_nil)) pa_nil)) pa_nil))) (gtupK (K := K) rfl (pg_tup rfl (pgs_cons (pg_name (i := 4) sc_law_is_led.nd rfl (by first | exact Or.inl rfl | exact Or.inr rfl)) (pgs_cons (pg_name (i := 5) sc_law_is_led.nd rfl (by first | exact Or.inl rfl | exact Or.inr rfl)) pgs_nil)))))
      (pss_cons (ps_if (PW.pt (pw_or (pt_cmpR (neK (K := K) rfl hr.units) (pe_callB (lenTK (K := K) (P := P) (w := w) rfl rfl rfl) (by rfl) B.len (by decide +kernel) (pa_cons (pe_callTy (setTK (K := K) (P := P) (w := w) rfl rfl rfl rfl hr.units) (by rfl) B.set (by decide +kernel) (pa_cons (pe_lc (own := [("_law_lap", 6)]) (by rfl) sc_law_is_led.nd (seqK (K := K) rfl (pv 5)) (blkOk_by (own := [("_law_lap", 6)]) (N := n_law_is_led) (sc := (defScope s_law_is_led)) (by decide +kernel)) (fun _ _ _ _ _ => (pg_name (i := 6) sc_law_is_led.nd rfl (by first | exact Or.inl rfl | exact Or.inr rfl))) (fun _ _ _ _ _ => pts_nil) (fun _ _ _ _ _ => (pe_ix (ixK (K := K) rfl) (pv 4) (pe_ix (ixK (K := K) rfl) (pv 6) pe_int (fun _ _ => rfl)) (fun _ _ => rfl)))) pa_nil)) pa_nil)) (pe_callB (lenK (K := K) rfl) (by rfl) B.len (by decide +kernel) (pa_cons (pv 5) pa_nil)) (nomark _)) (pw_or1 (pt_cmpR (neK (K := K) rfl hr.units) (pe_callB (lenTK (K := K) (P := P) (w := w) rfl rfl rfl) (by rfl) B.len (by decide +kernel) (pa_cons (pe_callTy (setTK (K := K) (P := P) (w := w) rfl rfl rfl rfl hr.units) (by rfl) B.set (by decide +kernel) (pa_cons (pv 4) pa_nil)) pa_nil)) (pe_callB (lenK (K := K) rfl) (by rfl) B.len (by decide +kernel) (pa_cons (pv 5) pa_nil)) (nomark _))))) (pss_one (ps_ret pe_bl)) pss_nil)
      (pss_cons (ps_for PassesOwn.never rfl (seqK (K := K) rfl (pv 5)) (pg_name (i := 6) sc_law_is_led.nd rfl (by first | exact Or.inl rfl | exact Or.inr rfl)) (pss_cons (ps_set (i := 7) sc_law_is_led.nd rfl (by first | exact Or.inl rfl | exact Or.inr rfl) (pe_lc (own := [("_law_who", 2)]) (by rfl) sc_law_is_led.nd (seqK (K := K) rfl (pv 6)) (blkOk_by (own := [("_law_who", 2)]) (N := n_law_is_led) (sc := (defScope s_law_is_led)) (by decide +kernel)) (fun _ _ _ _ _ => (pg_name (i := 2) sc_law_is_led.nd rfl (by first | exact Or.inl rfl | exact Or.inr rfl))) (fun _ _ _ _ _ => pts_nil) (fun _ _ _ _ _ => (indexK (K := K) rfl (pe_index (pe_ix (ixK (K := K) rfl) (pv 4) (pe_ix (ixK (K := K) rfl) (pv 6) pe_int (fun _ _ => rfl)) (fun _ _ => rfl)) (pa_cons (pv 2) pa_nil))))))
      (pss_cons (ps_setLc (i := 8) (own := [("_law_k", 9), ("_law_spot", 10)]) (by rfl) sc_law_is_led.nd rfl rfl (sw_true rfl rfl rfl (by decide +kernel)) (enumA2 (K := K) rfl (by rfl) B.enumerate (pa_cons (pv 7) pa_nil)) (blkOk_by (own := [("_law_k", 9), ("_law_spot", 10)]) (N := n_law_is_led) (sc := (defScope s_law_is_led)) (by decide +kernel)) (fun _ _ _ _ _ => (gtupK (K := K) rfl (pg_tup rfl (pgs_cons (pg_name (i := 9) sc_law_is_led.nd rfl (by first | exact Or.inl rfl | exact Or.inr rfl)) (pgs_cons (pg_name (i := 10) sc_law_is_led.nd rfl (by first | exact Or.inl rfl | exact Or.inr rfl)) pgs_nil))))) (fun _ _ _ _ _ => (pts_one (pt_cmpR op_gt (pv 10) (pe_ix (ixK (K := K) rfl) (pv 7) (pe_op op_mod (pe_op (addK (K := K) rfl) (pv 9) pe_int) (pe_callB (lenK (K := K) rfl) (by rfl) B.len (by decide +kernel) (pa_cons (pv 7) pa_nil))) (fun _ _ => rfl)) (nomark _)))) (fun _ _ _ _ _ => (pv 9)))
      (pss_one (ps_if (pt_cmpR op_gt (pe_callB (lenK (K := K) rfl) (by rfl) B.len (by decide +kernel) (pa_cons (pv 8) pa_nil)) pe_int (nomark _)) (pss_one (ps_ret pe_bl)) pss_nil)))))
      (pss_one (ps_ret pe_bl)))))),
    (ss_seq (ss_if (st_not (st_truth (se_cb rc_all (sa_cons (se_lc (si_enA (sa_cons se_var sa_nil)) (sg_tup (sgs_cons sg_name (sgs_cons sg_name sgs_nil))) st_yes (se_op r2_in se_var (se_call mon_law_walk (sa_cons se_var (sa_cons se_var sa_nil))))) sa_nil)))) (ss_ret se_bl) ss_next)
      (ss_seq (ss_parT (se_call mon_law_ends (sa_cons se_var sa_nil)) (se_sortSet (se_call mon_law_ends (sa_cons se_var sa_nil))))
      (ss_seq (ss_if (st_or (st_test (se_op r2_ne (se_lenSet (se_lc (si_seq se_var) sg_name st_yes (se_op r2_ix se_var (se_op r2_ix se_var se_int)))) (se_cb rc_len (sa_cons se_var sa_nil)))) (st_test (se_op r2_ne (se_lenSet se_var) (se_cb rc_len (sa_cons se_var sa_nil))))) (ss_ret se_bl) ss_next)
      (ss_seq (ss_for (si_seq se_var) sg_name (ss_seq (ss_set false (se_lc (si_seq se_var) sg_name st_yes (se_index (se_op r2_ix se_var (se_op r2_ix se_var se_int)) se_var)))
      (ss_seq (ss_set false (se_lc (si_enA (sa_cons se_var sa_nil)) (sg_tup (sgs_cons sg_name (sgs_cons sg_name sgs_nil))) (st_test (se_op r2_B se_var (se_op r2_ix se_var (se_op r2_C (se_op r2_add se_var se_int) (se_cb rc_len (sa_cons se_var sa_nil)))))) se_var))
      (ss_if (st_test (se_op r2_B (se_cb rc_len (sa_cons se_var sa_nil)) se_int)) (ss_ret se_bl) ss_next))))
      (ss_ret se_bl)))))⟩
abbrev sComps : Stmt := topS 12
abbrev nComps : List Str := ["state", "groups", "person", "least"]
theorem scComps : FnScope nComps ["state"] (defScope sComps) := ⟨rfl, rfl, rfl, by decide +kernel, rfl, by decide +kernel, by decide +kernel⟩
theorem ok_comps {f fO : Addr} {fd fdO : FuncData} {k : Nat} (F : Fun K "components" "components" sComps f fd) (B : Bi mg) (O : Cal P w K mg base "ring_of" (k + 1) ["state", "person"] (spD 2 p_ring_of) fO fdO) : FnOk P w K mg base CX0 (k + 2) f fd ["state"] spCompsS := by
  refine F.ok scComps (fun vs H Q E h => ?_) (fun cdv A outer s H vs Q E hr h => ?_)
  · obtain ⟨L0, v, d0, ns, rfl, _⟩ := h
    rfl
  · obtain ⟨L0, v, d0, ns, rfl, sL, dv, it, hst, ln, q⟩ := h
    obtain ⟨a, xs0, rfl, hS, dvs⟩ := its_seq (K := K) (.inl dv) sL it
    have lo := hst.lo
    have ex : xs0.length = ns.length := by rw [dvs.len, dI_len]
    refine ⟨_, pss_cons (ps_set (i := 1) scComps.nd rfl (.inr rfl) pe_dnewK)
      (C8.pss_cut (ps_for PassesOwn.never rfl (pi_range1 (by rfl) B.range (pa_cons (pe_callB call_len_seq (by rfl) B.len PySem.boot_len (pa_cons (pv 0) pa_nil)) pa_nil)) (pg_name (i := 2) scComps.nd rfl (.inl rfl))
        (pss_one (ps_expr (pe_bm PySem.F.plainAttrs_list PySem.F.slot_list_append PySem.F.type_list_append mt_append (pe_dsetd (pv 1) (pe_ix ix_tup (pe_call O.ok hr (by rfl) O.g O.kp O.bd .nil pass0 (pa_cons (pv 0) (pa_cons (pv 2) pa_nil))) pe_int (fun _ _ => rfl)) (pe_lst pa_nil) ⟨rfl, rfl, rfl, rfl⟩) (pa_cons (pv 2) pa_nil)))))
      (pss_one (ps_ret (pe_callB cr_sortL (by rfl) B.sorted (by decide +kernel) (pa_cons (pe_lock (pe_lc (own := [("least", 3)]) (g := gName 3) (tt := tYes) (by rfl) scComps.nd (pi_keys (pv 1)) (blkOk_by (own := [("least", 3)]) (N := nComps) (sc := defScope sComps) (by decide +kernel))
        (fun _ _ _ _ _ => pg_name (i := 3) scComps.nd rfl (Or.inl rfl)) (fun _ _ _ _ _ => pts_nil) (fun _ _ _ _ _ => pe_callTy (tupleK (K := K) rfl) (by rfl) B.tuple (by decide +kernel) (pa_cons (pe_dget (Nat.lt_of_le_of_lt (Nat.add_le_add_left (by decide) _) hr.units) (pv 1) (pv 3) (fun _ _ => rfl)) pa_nil)))) pa_nil))))), ?_⟩
    intro d nd
    refine ⟨fun σ H3 => ∃ y2 G, σ = [some (.ref a), some (.ref d), y2, none] ∧ Same H H3 ∧ GR H H3 d ns G ns.length, ?_, ?_⟩
    · refine ⟨.ref a, rfl, a, _, rfl, seqs_mono (same_new nd) hS, _, rfl, ?_, ?_, ?_⟩
      · rw [ex]; omega
      · rw [ex]; omega
      rw [ex]
      refine for_it (walk_range (lo := 0) (n := (ns.length : Int).toNat)) (fun i σ H3 => ∃ y2 G, σ = [some (.ref a), some (.ref d), y2, none] ∧ Same H H3 ∧ GR H H3 d ns G i) ?_ ?_ ?_ ?_
      · exact ⟨none, [], rfl, same_new nd, upd_same, List.nodup_nil, List.nodup_nil, (fun g hg => nomatch hg), (fun m => ⟨(fun h => nomatch h), (fun ⟨j, hj, _⟩ => absurd hj (Nat.not_lt_zero j))⟩), Nat.le_refl 0⟩
      · intros; trivial
      · rintro i x σ H0 H3 hi ⟨y2, G, rfl, s3, g3⟩ ⟨rfl, rfl⟩
        have hi' : i < ns.length := by omega
        refine ⟨.ref d, rfl, d, rfl, .inl ⟨_, .inl g3.hd⟩, .ref a, rfl, .int (0 + i), rfl, ring_do (E := fun _ _ _ => False) (p := 0 + i) (sL.trans s3) dv it hst ⟨by omega, by omega⟩ fun H4 r s4 hr4 => ?_⟩
        rw [Int.zero_add] at hr4
        have ne : ringF ns (i : Int) ≠ [] := ring_ne hst ⟨by omega, by omega⟩
        have g4 := g3.mono s4
        have at0 : atI (IL (ringF ns (i : Int))) 0 = some (.int (headF ns (i : Int))) := by
          refine at_of (j := 0) (by decide) (IL_get ?_)
          unfold headF
          cases q0 : ringF ns (i : Int) with
          | nil => exact absurd q0 ne
          | cons z t => rfl
        refine ⟨r, _, 0, _, rfl, rfl, hr4.seq, at0, Nat.zero_le _, fun l nl => ?_⟩
        have g5 := g4.mono (same_new (o := .lst []) nl)
        have s5 := (s3.trans s4).trans (same_new (o := .lst []) nl)
        have nH : H l = none := (s3.trans s4).free nl
        refine ⟨kvG G, .inl (headF ns (i : Int)), g5.hd, rfl, ?_, fun v hv => ?_, fun hv => ?_⟩
        · rw [List.length_map]; exact szl (by have := g5.len; omega)
        · obtain ⟨b, rfl, hb⟩ := vG_some G _ v hv
          have hl := g5.ls _ hb
          refine ⟨.inl ⟨rfl, _, SqL.of hl.1⟩, .int (0 + i), rfl, b, _, _, rfl, rfl, hl.1, ?_, _, G, rfl, same_mut s5 hl.2, ?_⟩
          · rw [List.length_map]; exact szl (Nat.lt_of_le_of_lt (compH_len ns (headF ns (i : Int)) i) (by omega))
          · rw [Int.zero_add]; exact g5.old hb
        · have dl : l ≠ d := Ne.symm (ne_of_none g4.hd nl)
          have hl : (upd (upd H4 l (.lst [])) d (.dK (putK (kvG G) (.inl (headF ns (i : Int))) (.ref l)))) l = some (.lst []) := by rw [upd_ne dl]; exact upd_same
          refine ⟨.inl ⟨rfl, _, SqL.of hl⟩, .int (0 + i), rfl, l, _, _, rfl, rfl, hl, szl (by decide), _, G ++ [(headF ns (i : Int), l)], rfl, same_mut (same_mut s5 nd) nH, ?_⟩
          rw [Int.zero_add]; exact g4.new nl nH hv
      · rintro σ H3 ⟨y2, G, rfl, s3, g3⟩
        exact ⟨y2, G, rfl, s3, g3⟩
    rintro σ H3 ⟨y2, G, rfl, s3, g3⟩
    refine ⟨d, _, g3.hd, trivial, fun od => ?_⟩
    refine ⟨.ref d, rfl, d, od, rfl, .inl ⟨_, upd_same, fun D nD => ?_⟩⟩
    have Dd : D ≠ d := fun z => by rw [z, upd_same] at nD; cases nD
    have nD3 : H3 D = none := by rw [upd_ne Dd] at nD; exact nD
    have gl : (kvG G).length = G.length := List.length_map _
    refine ⟨fun i m H9 => i + m = G.length ∧ ∃ L : List (Addr × List Int), H9 d = some (.frz od (.dK (kvG G))) ∧ (∀ b o, b ≠ D → b ≠ d → H3 b = some o → H9 b = some o) ∧ H9 D = some (.lst (RL L)) ∧ (∀ p ∈ L, Sol H9 p.1 (IL p.2) ∧ H p.1 = none) ∧ L.map (·.2) = (G.take i).map (fun g => compH ns g.1 ns.length), ⟨G.length, by omega, [], ?_, fun b o n1 n2 e => ?_, upd_same, (fun p hp => nomatch hp), rfl⟩, ?_⟩
    · rw [upd_ne (Ne.symm Dd)]; exact upd_same
    · rw [upd_ne n1, upd_ne n2]; exact e
    rintro i m H9 ⟨em, L, hd9, keep, hD, hL, eL⟩
    have lenL : L.length = min i G.length := by have := congrArg List.length eL; simpa using this
    by_cases hi : i < G.length
    · refine .inr ⟨⟨hd9, by rw [gl]; exact hi⟩, fun H' => ∃ L : List (Addr × List Int), H' d = some (.frz od (.dK (kvG G))) ∧ (∀ b o, b ≠ D → b ≠ d → H3 b = some o → H' b = some o) ∧ H' D = some (.lst (RL L)) ∧ (∀ p ∈ L, Sol H' p.1 (IL p.2) ∧ H p.1 = none) ∧ L.map (·.2) = (G.take (i + 1)).map (fun g => compH ns g.1 ns.length), fun H' h => ⟨m - 1, by omega, by omega, h⟩, fun x H' y => ?_⟩
      obtain ⟨rfl, kk, vv, hk, rfl⟩ := y
      have hk' : (kvG G)[i]? = some (Sum.inl (G[i]).1, V.ref (G[i]).2) := by rw [List.getElem?_map, List.getElem?_eq_getElem hi]; rfl
      rw [hk'] at hk
      cases hk
      have gm : G[i] ∈ G := List.getElem_mem hi
      have hl := (g3.ls _ gm).1
      have nlD : (G[i]).2 ≠ D := fun z => by rw [z, nD3] at hl; cases hl
      have nld : (G[i]).2 ≠ d := fun z => by rw [z, g3.hd] at hl; cases hl
      have hl9 := keep _ _ nlD nld hl
      refine ⟨rfl, yes_ok ⟨.ref d, rfl, .int (G[i]).1, rfl, d, .ref (G[i]).2, rfl, .inl ⟨_, .inl (G[i]).1, .inr ⟨od, hd9⟩, rfl, (vG_at G _ _ g3.n1 gm).symm⟩, (G[i]).2, _, rfl, .inl ⟨SqL.of hl9, fun t ot nt not => ?_⟩⟩⟩
      have hD' := upd_keep (u := .frz ot (.tup (IL (compH ns (G[i]).1 ns.length)))) hD nt
      have nHt : H t = none := by
        cases z : H t with
        | none => rfl
        | some o =>
          have td' : t ≠ d := fun y => by rw [y, nd] at z; cases z
          have e3 := s3 _ _ z
          have tD' : t ≠ D := fun y => by rw [y, nD3] at e3; cases e3
          rw [keep t o tD' td' e3] at nt; cases nt
      have tD : t ≠ D := fun z => by rw [z, hD] at nt; cases nt
      have td : t ≠ d := fun z => by rw [z, hd9] at nt; cases nt
      refine ⟨_, hD', ?_, L ++ [(t, compH ns (G[i]).1 ns.length)], ?_, fun b o n1 n2 e => ?_, ?_, fun p hp => ?_, ?_⟩
      · rw [List.length_map]; exact szl (by have := g3.len; omega)
      · rw [upd_ne (Ne.symm Dd)]; exact upd_keep hd9 nt
      · rw [upd_ne n1]; exact upd_keep (keep b o n1 n2 e) nt
      · rw [upd_same]
        show _ = some (HO.lst (List.map _ _))
        rw [List.map_append]; rfl
      · rcases List.mem_append.mp hp with h | h
        · obtain ⟨⟨o, z0, z⟩, z1⟩ := hL p h
          refine ⟨⟨o, z0, ?_⟩, z1⟩
          rw [upd_ne (fun y => by rw [y, hD] at z; cases z)]
          exact upd_keep z nt
        · rw [List.mem_singleton.mp h]
          exact ⟨⟨ot, not, by rw [upd_ne tD]; exact upd_same⟩, nHt⟩
      · rw [List.map_append, eL, List.take_succ, List.getElem?_eq_getElem hi, List.map_append]; rfl
    · have ei : i = G.length := by omega
      subst ei
      rw [List.take_length] at eL
      refine .inl ⟨⟨hd9, by rw [gl]; exact Nat.le_refl _⟩, hd9, ?_⟩
      have un : ∀ {b : Addr} {o : HO}, b ≠ d → H9 b = some o → upd H9 d (.dK (kvG G)) b = some o := fun {b o} n e => by rw [upd_ne n]; exact e
      have tupd : ∀ p ∈ L, p.1 ≠ d := fun p hp z => by obtain ⟨⟨o, _, this⟩, _⟩ := hL p hp; rw [z, hd9] at this; cases this
      have solU : ∀ p ∈ L, Sol (upd H9 d (.dK (kvG G))) p.1 (IL p.2) := fun p hp => by
        obtain ⟨⟨o, z0, z⟩, _⟩ := hL p hp
        exact ⟨o, z0, un (tupd p hp) z⟩
      refine ⟨D, L, rfl, SqL.of (un Dd hD), fun p hp => ⟨(solU p hp).seq, fun e0 => ?_⟩, fun L' r pm rk nr => ?_⟩
      · have : p.2 ∈ L.map (·.2) := List.mem_map.mpr ⟨p, hp, rfl⟩
        rw [eL] at this
        obtain ⟨g, hg, eg⟩ := List.mem_map.mp this
        obtain ⟨j, hj, ej⟩ := (g3.ks g.1).mp (List.mem_map.mpr ⟨g, hg, rfl⟩)
        have : (j : Int) ∈ compH ns g.1 ns.length := compH_mem.mpr ⟨j, hj, ej, rfl⟩
        rw [eg, e0] at this
        exact nomatch this
      · have same : Same H (upd (upd H9 d (.dK (kvG G))) r (.lst (RL L'))) := fun b o e => by
          have bd : b ≠ d := fun z => by rw [z, nd] at e; cases e
          have e3 := s3 _ _ e
          have bD : b ≠ D := fun z => by rw [z, nD3] at e3; cases e3
          exact upd_keep (un bd (keep b o bD bd e3)) nr
        refine q _ r L' same ?_ upd_same (fun p hp => by
          obtain ⟨o, z0, z⟩ := solU p (pm.mem_iff.mp hp)
          exact ⟨⟨o, z0, upd_keep z nr⟩, (hL p (pm.mem_iff.mp hp)).2⟩) (comps_of g3.n1 g3.ks ?_ (List.pairwise_map.mpr rk))
        · cases z : H r with
          | none => rfl
          | some o =>
            have bd : r ≠ d := fun y => by rw [y, nd] at z; cases z
            have e3 := s3 _ _ z
            have bD : r ≠ D := fun y => by rw [y, nD3] at e3; cases e3
            rw [un bd (keep r o bD bd e3)] at nr; cases nr
        · have := pm.map (·.2)
          rw [eL] at this
          rw [List.map_map]; exact this
abbrev s_people_bar : Stmt := topS 20
abbrev n_people_bar : List Str := ["one", "other", "others", "group"]
theorem sc_people_bar : FnScope n_people_bar ["one", "other"] (defScope s_people_bar) := ⟨rfl, rfl, rfl, by decide +kernel, rfl, by decide +kernel, by decide +kernel⟩
theorem ok_people_bar {f : Addr} {fd : FuncData} (F : Fun K "people_bar" "people_bar" s_people_bar f fd) (B : Bi mg) {f_components : Addr} {e_components : FuncData} (c_components : Cal P w K mg base "components" 3 ["state"] (spD 1 p_components) f_components e_components)    : FnOk P w K mg base CX0 4 f fd ["one", "other"] (spD 2 p_people_bar) := by
  refine okD (k := 3) F sc_people_bar rfl (fun cdv A outer s H E hr => ?_) m_people_bar
  exact ⟨_, (pss_cons (ps_set (i := 2) sc_people_bar.nd rfl (by first | exact Or.inl rfl | exact Or.inr rfl) (pe_call c_components.ok (hr.mono (by decide)) (by rfl) c_components.g c_components.kp c_components.bd .nil pass0 (pa_cons (pv 1) pa_nil)))
      (pss_cons (ps_for PassesOwn.never rfl (seqK (K := K) rfl (pe_call c_components.ok (hr.mono (by decide)) (by rfl) c_components.g c_components.kp c_components.bd .nil pass0 (pa_cons (pv 0) pa_nil))) (pg_name (i := 3) sc_people_bar.nd rfl (by first | exact Or.inl rfl | exact Or.inr rfl)) (pss_one (ps_if (pt_cmpR (notInK (K := K) rfl (hu65 hr)) (pv 3) (pv 2) (by rfl)) (pss_one (ps_ret (pe_tupS (pa_cons pe_str (pa_cons (pe_ix (ixK (K := K) rfl) (pv 3) pe_int (fun _ _ => rfl)) pa_nil))))) pss_nil)))
      (pss_one (ps_ret pe_non)))),
    (ss_seq (ss_set false (se_call mon_components (sa_cons se_var sa_nil)))
      (ss_seq (ss_for (si_seq (se_call mon_components (sa_cons se_var sa_nil))) sg_name (ss_if (st_test (se_op r2_notIn se_var se_var)) (ss_ret (se_tup (sa_cons se_str (sa_cons (se_op r2_ix se_var se_int) sa_nil)))) ss_next))
      (ss_ret se_non)))⟩
abbrev s_past_bar : Stmt := topS 22
abbrev n_past_bar : List Str := ["one", "other", "bar", "group", "broken"]
theorem sc_past_bar : FnScope n_past_bar ["one", "other"] (defScope s_past_bar) := ⟨rfl, rfl, rfl, by decide +kernel, rfl, by decide +kernel, by decide +kernel⟩
theorem ok_past_bar {f : Addr} {fd : FuncData} (F : Fun K "past_bar" "past_bar" s_past_bar f fd) (B : Bi mg) {f_check_size : Addr} {e_check_size : FuncData} (c_check_size : Cal P w K mg base "check_size" 1 ["state", "other"] (spD 2 p_check_size) f_check_size e_check_size) {f_people_bar : Addr} {e_people_bar : FuncData} (c_people_bar : Cal P w K mg base "people_bar" 4 ["one", "other"] (spD 2 p_people_bar) f_people_bar e_people_bar) {f_components : Addr} {e_components : FuncData} (c_components : Cal P w K mg base "components" 3 ["state"] (spD 1 p_components) f_components e_components) {f_order_broken : Addr} {e_order_broken : FuncData} (c_order_broken : Cal P w K mg base "order_broken" 3 ["members", "ring"] (spD 2 p_order_broken) f_order_broken e_order_broken) {f_ring_of : Addr} {e_ring_of : FuncData} (c_ring_of : Cal P w K mg base "ring_of" 2 ["state", "person"] (spD 2 p_ring_of) f_ring_of e_ring_of) {f_shared_members : Addr} {e_shared_members : FuncData} (c_shared_members : Cal P w K mg base "shared_members" 3 ["one", "other", "person"] (spD 3 p_shared_members) f_shared_members e_shared_members)    : FnOk P w K mg base CX0 5 f fd ["one", "other"] (spD 2 p_past_bar) := by
  refine okD (k := 4) F sc_past_bar rfl (fun cdv A outer s H E hr => ?_) m_past_bar
  exact ⟨_, (pss_cons (ps_expr (pe_call c_check_size.ok (hr.mono (by decide)) (by rfl) c_check_size.g c_check_size.kp c_check_size.bd .nil pass0 (pa_cons (pv 0) (pa_cons (pv 1) pa_nil))))
      (pss_cons (ps_set (i := 2) sc_past_bar.nd rfl (by first | exact Or.inl rfl | exact Or.inr rfl) (pe_call c_people_bar.ok (hr.mono (by decide)) (by rfl) c_people_bar.g c_people_bar.kp c_people_bar.bd .nil pass0 (pa_cons (pv 0) (pa_cons (pv 1) pa_nil))))
      (pss_cons (ps_if (pt_cmpR op_notN (pv 2) pe_non (nomark _)) (pss_one (ps_ret (pv 2))) pss_nil)
      (pss_cons (ps_for PassesOwn.never rfl (seqK (K := K) rfl (pe_call c_components.ok (hr.mono (by decide)) (by rfl) c_components.g c_components.kp c_components.bd .nil pass0 (pa_cons (pv 0) pa_nil))) (pg_name (i := 3) sc_past_bar.nd rfl (by first | exact Or.inl rfl | exact Or.inr rfl)) (pss_cons (ps_set (i := 4) sc_past_bar.nd rfl (by first | exact Or.inl rfl | exact Or.inr rfl) (pe_call c_order_broken.ok (hr.mono (by decide)) (by rfl) c_order_broken.g c_order_broken.kp c_order_broken.bd .nil pass0 (pa_cons (pe_call c_shared_members.ok (hr.mono (by decide)) (by rfl) c_shared_members.g c_shared_members.kp c_shared_members.bd .nil pass0 (pa_cons (pv 0) (pa_cons (pv 1) (pa_cons (pe_ix (ixK (K := K) rfl) (pv 3) pe_int (fun _ _ => rfl)) pa_nil)))) (pa_cons (pe_call c_ring_of.ok (hr.mono (by decide)) (by rfl) c_ring_of.g c_ring_of.kp c_ring_of.bd .nil pass0 (pa_cons (pv 1) (pa_cons (pe_ix (ixK (K := K) rfl) (pv 3) pe_int (fun _ _ => rfl)) pa_nil))) pa_nil))))
      (pss_one (ps_if (pt_cmpR op_notN (pv 4) pe_non (nomark _)) (pss_one (ps_ret (pv 4))) pss_nil))))
      (pss_one (ps_ret pe_non)))))),
    (ss_seq (ss_drop (se_call mon_check_size (sa_cons se_var (sa_cons se_var sa_nil))))
      (ss_seq (ss_set false (se_call mon_people_bar (sa_cons se_var (sa_cons se_var sa_nil))))
      (ss_seq (ss_if (st_test (se_op r2_notN se_var se_non)) (ss_ret se_var) ss_next)
      (ss_seq (ss_for (si_seq (se_call mon_components (sa_cons se_var sa_nil))) sg_name (ss_seq (ss_set false (se_call mon_order_broken (sa_cons (se_call mon_shared_members (sa_cons se_var (sa_cons se_var (sa_cons (se_op r2_ix se_var se_int) sa_nil)))) (sa_cons (se_call mon_ring_of (sa_cons se_var (sa_cons (se_op r2_ix se_var se_int) sa_nil))) sa_nil))))
      (ss_if (st_test (se_op r2_notN se_var se_non)) (ss_ret se_var) ss_next)))
      (ss_ret se_non)))))⟩
abbrev s_common_past : Stmt := topS 25
abbrev n_common_past : List Str := ["one", "other", "bar", "group"]
theorem sc_common_past : FnScope n_common_past ["one", "other"] (defScope s_common_past) := ⟨rfl, rfl, rfl, by decide +kernel, rfl, by decide +kernel, by decide +kernel⟩
theorem ok_common_past {f : Addr} {fd : FuncData} (F : Fun K "common_past" "common_past" s_common_past f fd) (B : Bi mg) {f_past_bar : Addr} {e_past_bar : FuncData} (c_past_bar : Cal P w K mg base "past_bar" 5 ["one", "other"] (spD 2 p_past_bar) f_past_bar e_past_bar) {f_ring_state : Addr} {e_ring_state : FuncData} (c_ring_state : Cal P w K mg base "ring_state" 2 ["laps"] (spD 1 p_ring_state) f_ring_state e_ring_state) {f_components : Addr} {e_components : FuncData} (c_components : Cal P w K mg base "components" 3 ["state"] (spD 1 p_components) f_components e_components) {f_common_lap : Addr} {e_common_lap : FuncData} (c_common_lap : Cal P w K mg base "common_lap" 4 ["one", "other", "group"] (spD 3 p_common_lap) f_common_lap e_common_lap)    : FnOk P w K mg base CX0 6 f fd ["one", "other"] (spD 2 p_common_past) := by
  refine okD (k := 5) F sc_common_past rfl (fun cdv A outer s H E hr => ?_) m_common_past
  exact ⟨_, (pss_cons (ps_set (i := 2) sc_common_past.nd rfl (by first | exact Or.inl rfl | exact Or.inr rfl) (pe_call c_past_bar.ok (hr.mono (by decide)) (by rfl) c_past_bar.g c_past_bar.kp c_past_bar.bd .nil pass0 (pa_cons (pv 0) (pa_cons (pv 1) pa_nil))))
      (pss_cons (ps_if (pt_cmpR op_notN (pv 2) pe_non (nomark _)) pss_never pss_nil)
      (pss_one (ps_ret (pe_call c_ring_state.ok (hr.mono (by decide)) (by rfl) c_ring_state.g c_ring_state.kp c_ring_state.bd .nil pass0 (pa_cons (pe_lc (own := [("group", 3)]) (by rfl) sc_common_past.nd (seqK (K := K) rfl (pe_call c_components.ok (hr.mono (by decide)) (by rfl) c_components.g c_components.kp c_components.bd .nil pass0 (pa_cons (pv 0) pa_nil))) (blkOk_by (own := [("group", 3)]) (N := n_common_past) (sc := (defScope s_common_past)) (by decide +kernel)) (fun _ _ _ _ _ => (pg_name (i := 3) sc_common_past.nd rfl (by first | exact Or.inl rfl | exact Or.inr rfl))) (fun _ _ _ _ _ => pts_nil) (fun _ _ _ _ _ => (pe_call c_common_lap.ok (hr.mono (by decide)) (by rfl) c_common_lap.g c_common_lap.kp c_common_lap.bd .nil pass0 (pa_cons (pv 0) (pa_cons (pv 1) (pa_cons (pv 3) pa_nil)))))) pa_nil)))))),
    (ss_seq (ss_set false (se_call mon_past_bar (sa_cons se_var (sa_cons se_var sa_nil))))
      (ss_seq (ss_if (st_test (se_op r2_notN se_var se_non)) ss_never ss_next)
      (ss_ret (se_call mon_ring_state (sa_cons (se_lc (si_seq (se_call mon_components (sa_cons se_var sa_nil))) sg_name st_yes (se_call mon_common_lap (sa_cons se_var (sa_cons se_var (sa_cons se_var sa_nil))))) sa_nil)))))⟩
abbrev s_law_right : Stmt := topS 39
abbrev n_law_right : List Str := ["_law_box_here", "_law_turn", "_law_net", "_law_mate", "_law_past_due", "_law_to"]
theorem sc_law_right : FnScope n_law_right ["_law_box_here"] (defScope s_law_right) := ⟨rfl, rfl, rfl, by decide +kernel, rfl, by decide +kernel, by decide +kernel⟩
theorem ok_law_right {f : Addr} {fd : FuncData} (F : Fun K "_law_right" "_law_right" s_law_right f fd) (B : Bi mg) {f_law_any_net : Addr} {e_law_any_net : FuncData} (c_law_any_net : Cal P w K mg base "_law_any_net" 5 ["_law_box_here", "_law_most"] (spD 2 p_law_any_net) f_law_any_net e_law_any_net) {f_law_take : Addr} {e_law_take : FuncData} (c_law_take : Cal P w K mg base "_law_take" 2 ["_law_box_here", "_law_below"] (spD 2 p_law_take) f_law_take e_law_take) {f_law_toured : Addr} {e_law_toured : FuncData} (c_law_toured : Cal P w K mg base "_law_toured" 3 ["_law_box_here", "_law_net", "_law_most"] (spD 3 p_law_toured) f_law_toured e_law_toured) {f_law_within : Addr} {e_law_within : FuncData} (c_law_within : Cal P w K mg base "_law_within" 5 ["_law_box_here", "_law_net"] (spD 2 p_law_within) f_law_within e_law_within) {f_past_bar : Addr} {e_past_bar : FuncData} (c_past_bar : Cal P w K mg base "past_bar" 5 ["one", "other"] (spD 2 p_past_bar) f_past_bar e_past_bar) {f_common_past : Addr} {e_common_past : FuncData} (c_common_past : Cal P w K mg base "common_past" 6 ["one", "other"] (spD 2 p_common_past) f_common_past e_common_past) {f_law_is_led : Addr} {e_law_is_led : FuncData} (c_law_is_led : Cal P w K mg base "_law_is_led" 3 ["_law_net", "_law_aim"] (spD 2 p_law_is_led) f_law_is_led e_law_is_led)   (kb_common_past : KbR e_common_past ["one", "other"]) : FnOk P w K mg base CX0 7 f fd ["_law_box_here"] (spD 1 p_k42_law_right) := by
  refine okD (k := 6) F sc_law_right rfl (fun cdv A outer s H E hr => ?_) m_k42_law_right
  exact ⟨_, (pss_cons (ps_for PassesOwn.never rfl (pi_range1 (by rfl) B.range (pa_cons pe_int pa_nil)) (pg_name (i := 1) sc_law_right.nd rfl (by first | exact Or.inl rfl | exact Or.inr rfl)) (pss_cons (ps_set (i := 2) sc_law_right.nd rfl (by first | exact Or.inl rfl | exact Or.inr rfl) (pe_call c_law_any_net.ok (hr.mono (by decide)) (by rfl) c_law_any_net.g c_law_any_net.kp c_law_any_net.bd .nil pass0 (pa_cons (pv 0) (pa_cons pe_int pa_nil))))
      (pss_cons (ps_set (i := 3) sc_law_right.nd rfl (by first | exact Or.inl rfl | exact Or.inr rfl) (pe_ifExp (pt_cmpR (eqK (K := K) rfl hr.units) (pe_call c_law_take.ok (hr.mono (by decide)) (by rfl) c_law_take.g c_law_take.kp c_law_take.bd .nil pass0 (pa_cons (pv 0) (pa_cons pe_int pa_nil))) pe_int (nomark _)) (pe_call c_law_toured.ok (hr.mono (by decide)) (by rfl) c_law_toured.g c_law_toured.kp c_law_toured.bd .nil pass0 (pa_cons (pv 0) (pa_cons (pv 2) (pa_cons pe_int pa_nil)))) (pe_call c_law_within.ok (hr.mono (by decide)) (by rfl) c_law_within.g c_law_within.kp c_law_within.bd .nil pass0 (pa_cons (pv 0) (pa_cons (pv 2) pa_nil)))))
      (pss_cons (ps_set (i := 2) sc_law_right.nd rfl (by first | exact Or.inl rfl | exact Or.inr rfl) (pe_call c_law_toured.ok (hr.mono (by decide)) (by rfl) c_law_toured.g c_law_toured.kp c_law_toured.bd .nil pass0 (pa_cons (pv 0) (pa_cons (pv 2) (pa_cons pe_int pa_nil)))))
      (pss_one (ps_if (pt_cmpR op_isN (pe_call c_past_bar.ok (hr.mono (by decide)) (by rfl) c_past_bar.g c_past_bar.kp c_past_bar.bd .nil pass0 (pa_cons (pv 2) (pa_cons (pv 3) pa_nil))) pe_non (nomark _)) (pss_cons (ps_for PassesOwn.never rfl (seqK (K := K) rfl (pe_tupS (pa_cons (pe_call c_common_past.ok (hr.mono (by decide)) (by rfl) c_common_past.g c_common_past.kp c_common_past.bd .nil pass0 (pa_cons (pv 2) (pa_cons (pv 3) pa_nil))) (pa_cons (pe_callR c_common_past.ok (hr.mono (by decide)) (by rfl) c_common_past.g c_common_past.kp kb_common_past pass0 (pk_cons (pe_callTy (listK (K := K) rfl) (by rfl) B.list (by decide +kernel) (pa_cons (pv 2) pa_nil)) (pk_cons (pe_callTy (listK (K := K) rfl) (by rfl) B.list (by decide +kernel) (pa_cons (pv 3) pa_nil)) pk_nil))) pa_nil)))) (pg_name (i := 4) sc_law_right.nd rfl (by first | exact Or.inl rfl | exact Or.inr rfl)) (pss_cons (ps_if (PW.pt (pw_or (pt_cmpR (neK (K := K) rfl hr.units) (pe_callB (lenK (K := K) rfl) (by rfl) B.len (by decide +kernel) (pa_cons (pv 4) pa_nil)) (pe_callB (lenK (K := K) rfl) (by rfl) B.len (by decide +kernel) (pa_cons (pv 2) pa_nil)) (nomark _)) (pw_or1 (pt_not (pt_truth (pe_callB (allK (K := K) rfl rfl) (by rfl) B.all (by decide +kernel) (pa_cons (pe_lc (own := [("_law_to", 5)]) (by rfl) sc_law_right.nd (seqK (K := K) rfl (pv 4)) (blkOk_by (own := [("_law_to", 5)]) (N := n_law_right) (sc := (defScope s_law_right)) (by decide +kernel)) (fun _ _ _ _ _ => (pg_name (i := 5) sc_law_right.nd rfl (by first | exact Or.inl rfl | exact Or.inr rfl))) (fun _ _ _ _ _ => pts_nil) (fun _ _ _ _ _ => (pe_chain op_le op_lt pe_int (pv 5) (pe_callB (lenK (K := K) rfl) (by rfl) B.len (by decide +kernel) (pa_cons (pv 2) pa_nil))))) pa_nil)) (by intro _; rfl)))))) (pss_one (ps_ret pe_bl)) pss_nil)
      (pss_one (ps_if (PW.pt (pw_or (pt_not (pt_truth (pe_call c_law_is_led.ok (hr.mono (by decide)) (by rfl) c_law_is_led.g c_law_is_led.kp c_law_is_led.bd .nil pass0 (pa_cons (pv 4) (pa_cons (pv 2) pa_nil))) (by intro _; rfl))) (pw_or1 (pt_not (pt_truth (pe_call c_law_is_led.ok (hr.mono (by decide)) (by rfl) c_law_is_led.g c_law_is_led.kp c_law_is_led.bd .nil pass0 (pa_cons (pv 4) (pa_cons (pv 3) pa_nil))) (by intro _; rfl)))))) (pss_one (ps_ret pe_bl)) pss_nil))))
      (pss_one (ps_if (pt_cmpR (neK (K := K) rfl hr.units) (pe_call c_common_past.ok (hr.mono (by decide)) (by rfl) c_common_past.g c_common_past.kp c_common_past.bd .nil pass0 (pa_cons (pv 2) (pa_cons (pv 3) pa_nil))) (pe_call c_common_past.ok (hr.mono (by decide)) (by rfl) c_common_past.g c_common_past.kp c_common_past.bd .nil pass0 (pa_cons (pv 2) (pa_cons (pv 3) pa_nil))) (nomark _)) (pss_one (ps_ret pe_bl)) pss_nil))) pss_nil))))))
      (pss_one (ps_ret pe_bl))),
    (ss_seq (ss_for (si_rng1 (sa_cons se_int sa_nil)) sg_name (ss_seq (ss_set false (se_call mon_law_any_net (sa_cons se_var (sa_cons se_int sa_nil))))
      (ss_seq (ss_set false (se_if (st_test (se_op r2_eq (se_call mon_law_take (sa_cons se_var (sa_cons se_int sa_nil))) se_int)) (se_call mon_law_toured (sa_cons se_var (sa_cons se_var (sa_cons se_int sa_nil)))) (se_call mon_law_within (sa_cons se_var (sa_cons se_var sa_nil)))))
      (ss_seq (ss_set false (se_call mon_law_toured (sa_cons se_var (sa_cons se_var (sa_cons se_int sa_nil)))))
      (ss_if (st_test (se_op r2_isN (se_call mon_past_bar (sa_cons se_var (sa_cons se_var sa_nil))) se_non)) (ss_seq (ss_for (si_seq (se_tup (sa_cons (se_call mon_common_past (sa_cons se_var (sa_cons se_var sa_nil))) (sa_cons (se_callR mon_common_past (sa_cons (se_cb rc_list (sa_cons se_var sa_nil)) (sa_cons (se_cb rc_list (sa_cons se_var sa_nil)) sa_nil))) sa_nil)))) sg_name (ss_seq (ss_if (st_or (st_test (se_op r2_ne (se_cb rc_len (sa_cons se_var sa_nil)) (se_cb rc_len (sa_cons se_var sa_nil)))) (st_not (st_truth (se_cb rc_all (sa_cons (se_lc (si_seq se_var) sg_name st_yes (se_chain r2_B r2_B se_int se_var (se_cb rc_len (sa_cons se_var sa_nil)))) sa_nil))))) (ss_ret se_bl) ss_next)
      (ss_if (st_or (st_not (st_truth (se_call mon_law_is_led (sa_cons se_var (sa_cons se_var sa_nil))))) (st_not (st_truth (se_call mon_law_is_led (sa_cons se_var (sa_cons se_var sa_nil)))))) (ss_ret se_bl) ss_next)))
      (ss_if (st_test (se_op r2_ne (se_call mon_common_past (sa_cons se_var (sa_cons se_var sa_nil))) (se_call mon_common_past (sa_cons se_var (sa_cons se_var sa_nil))))) (ss_ret se_bl) ss_next)) ss_next)))))
      (ss_ret se_bl))⟩
abbrev s_law : Stmt := topS 40
theorem sc_law : FnScope ["_law_script", "_law_k"] ["_law_script"] (defScope s_law) := ⟨rfl, rfl, rfl, by decide +kernel, rfl, by decide +kernel, by decide +kernel⟩
theorem ok_law {f fB fR : Addr} {fd fdB fdR : FuncData} (F : Fun K "law" "law" s_law f fd) (B : Bi mg)
    (X : Cal P w K mg base "_law_box" 1 ["_law_script", "_law_k"] (spBox K) fB fdB) (R : Cal P w K mg base "_law_right" 7 ["_law_box_here"] (spD 1 p_k42_law_right) fR fdR) : FnOk P w K mg base CX0 8 f fd ["_law_script"] (spLaw K) := by
  refine Fun.ok (k := 7) F sc_law (fun vs H Q E h => ?_) (fun cdv A outer s H vs Q E hr h => ?_)
  · obtain ⟨a, ns, rfl, _⟩ := h
    rfl
  · obtain ⟨a, ns, rfl, hS, hl, q⟩ := h
    refine ⟨_, pss_one (ps_ret (pe_callB (cr_all rfl) (by rfl) B.all (by decide +kernel) (pa_cons (pe_lc (own := [("_law_k", 1)]) (g := gName 1) (tt := tYes) (by rfl) sc_law.nd (pi_range1 (by rfl) B.range (pa_cons (pe_op op_add pe_int (pe_callB (call_min2 rfl) (by rfl) B.min (by decide +kernel) (pa_cons pe_int (pa_cons (pe_callB call_len_seq (by rfl) B.len PySem.boot_len (pa_cons (pv 0) pa_nil)) pa_nil)))) pa_nil)) (blkOk_by (own := [("_law_k", 1)]) (N := ["_law_script", "_law_k"]) (sc := defScope s_law) (by decide +kernel))
          (fun _ _ _ _ _ => pg_name (i := 1) sc_law.nd rfl (by first | exact Or.inl rfl | exact Or.inr rfl)) (fun _ _ _ _ _ => pts_nil) (fun _ _ _ _ _ => pe_call R.ok hr (by rfl) R.g R.kp R.bd .nil pass0 (pa_cons (pe_call X.ok (hr.mono (by decide)) (by rfl) X.g X.kp X.bd .nil pass0 (pa_cons (pv 0) (pa_cons (pv 1) pa_nil))) pa_nil))) pa_nil))), ?_⟩
    refine ⟨.ref a, rfl, a, _, rfl, .inl hS, 3, _, rfl, 1, _, rfl, rfl, ?_⟩
    rw [List.length_map]
    have hm : ∃ m : Nat, (if (ns.length : Int) < 3 then (ns.length : Int) else 3) = (m : Nat) ∧ m ≤ 3 := by
      split
      · exact ⟨ns.length, rfl, by omega⟩
      · exact ⟨3, rfl, by decide⟩
    obtain ⟨m, em, hm⟩ := hm
    rw [em]
    refine ⟨_, rfl, by omega, by omega, fun D nD => ?_⟩
    have en : ∀ z : Int, z = 1 + (m : Int) → z.toNat = 1 + m := fun z e => by omega
    rw [en _ (by omega)]
    refine lc_range (lo := 0) (fun j H5 => H5 D = some (.lst (List.replicate j (.bl true))) ∧ Stay K D a (IL ns) H5) ⟨upd_same, Stay.of hS nD⟩ ?_ ?_
    · rintro j H5 hj ⟨hD, hS5⟩
      refine ⟨rfl, yes_ok ?_⟩
      refine ⟨.ref a, rfl, .int (0 + j), rfl, a, _, ns, rfl, hS5.sq, by omega, by omega, fun H6 b s6 nb hB => ?_⟩
      have Db : D ≠ b := ne_of_none hD nb
      refine right_do (E := fun _ _ _ => False) hB (fun Q hQ => ⟨rfl, by decide, hQ⟩) fun H7 sb7 _ => ?_
      refine ⟨_, sb7 D _ Db (s6 _ _ hD), ?_, ?_, hS5.step s6 nb sb7⟩
      · rw [List.length_replicate]; exact szl (by omega)
      · rw [upd_same, rep_app]
    · rintro H5 ⟨hD, _⟩
      refine ⟨D, List.replicate (1 + m) true, rfl, ?_, ?_⟩
      · rw [rep_bl]; exact SqL.of hD
      · rw [rep_all]; exact q _

end
theorem all_mk {l : PySem.W.OpenLaw} {w : World} {K : PySem.W.Frag} {h : Heap} {mg : Str → Option Value} {fa : Addr} (X : K.In h) (G : h.Ns mainGlobals mg) (hfa : mg "law" = some (.ref fa)) (Z : Zs K)
    (d1 : Dx K "kept" s_kept) (d6 : Dx K "state_of" s_state_of) (d7 : Dx K "check_person" s_check_person) (d8 : Dx K "route_from" s_route_from) (d9 : Dx K "turned" s_turned) (d10 : Dx K "ring_begin" s_ring_begin) (d11 : Dx K "ring_of" s_ring_of) (d12 : Dx K "components" sComps) (d14 : Dx K "check_size" s_check_size) (d15 : Dx K "meets_first" s_meets_first) (d16 : Dx K "order_broken" s_order_broken) (d18 : Dx K "ring_state" s_ring_state) (d20 : Dx K "people_bar" s_people_bar) (d21 : Dx K "shared_members" s_shared_members) (d22 : Dx K "past_bar" s_past_bar) (d23 : Dx K "merged" s_merged) (d24 : Dx K "common_lap" s_common_lap) (d25 : Dx K "common_past" s_common_past) (d27 : Dx K "_law_box" sBox) (d28 : Dx K "_law_take" sTake) (d29 : Dx K "_law_pick" s_law_pick) (d30 : Dx K "_law_strewn" s_law_strewn) (d31 : Dx K "_law_net_of" s_law_net_of) (d32 : Dx K "_law_any_net" s_law_any_net) (d33 : Dx K "_law_walk" s_law_walk) (d34 : Dx K "_law_ends" s_law_ends) (d35 : Dx K "_law_looked" s_law_looked) (d36 : Dx K "_law_toured" s_law_toured) (d37 : Dx K "_law_within" s_law_within) (d38 : Dx K "_law_is_led" s_law_is_led) (d39 : Dx K "_law_right" s_law_right) (d40 : Dx K "law" s_law)   :
    ∃ fd : FuncData, (∀ (s : Shared) (v : Value), BindsTo s fd ⟨[v], []⟩ [("_law_script", v)]) ∧ ∀ base : Heap, K.In base → base.Ns mainGlobals mg → FnOk l.prog w K mg base CX0 8 fa fd ["_law_script"] (spLaw K) := by
  have B := Z.bi X G
  obtain ⟨f1, e1, F1, g1⟩ := d1.fn X G
  obtain ⟨f6, e6, F6, g6⟩ := d6.fn X G
  obtain ⟨f7, e7, F7, g7⟩ := d7.fn X G
  obtain ⟨f8, e8, F8, g8⟩ := d8.fn X G
  obtain ⟨f9, e9, F9, g9⟩ := d9.fn X G
  obtain ⟨f10, e10, F10, g10⟩ := d10.fn X G
  obtain ⟨f11, e11, F11, g11⟩ := d11.fn X G
  obtain ⟨f12, e12, F12, g12⟩ := d12.fn X G
  obtain ⟨f14, e14, F14, g14⟩ := d14.fn X G
  obtain ⟨f15, e15, F15, g15⟩ := d15.fn X G
  obtain ⟨f16, e16, F16, g16⟩ := d16.fn X G
  obtain ⟨f18, e18, F18, g18⟩ := d18.fn X G
  obtain ⟨f20, e20, F20, g20⟩ := d20.fn X G
  obtain ⟨f21, e21, F21, g21⟩ := d21.fn X G
  obtain ⟨f22, e22, F22, g22⟩ := d22.fn X G
  obtain ⟨f23, e23, F23, g23⟩ := d23.fn X G
  obtain ⟨f24, e24, F24, g24⟩ := d24.fn X G
  obtain ⟨f25, e25, F25, g25⟩ := d25.fn X G
  obtain ⟨f27, e27, F27, g27⟩ := d27.fn X G
  obtain ⟨f28, e28, F28, g28⟩ := d28.fn X G
  obtain ⟨f29, e29, F29, g29⟩ := d29.fn X G
  obtain ⟨f30, e30, F30, g30⟩ := d30.fn X G
  obtain ⟨f31, e31, F31, g31⟩ := d31.fn X G
  obtain ⟨f32, e32, F32, g32⟩ := d32.fn X G
  obtain ⟨f33, e33, F33, g33⟩ := d33.fn X G
  obtain ⟨f34, e34, F34, g34⟩ := d34.fn X G
  obtain ⟨f35, e35, F35, g35⟩ := d35.fn X G
  obtain ⟨f36, e36, F36, g36⟩ := d36.fn X G
  obtain ⟨f37, e37, F37, g37⟩ := d37.fn X G
  obtain ⟨f38, e38, F38, g38⟩ := d38.fn X G
  obtain ⟨f39, e39, F39, g39⟩ := d39.fn X G
  obtain ⟨f40, e40, F40, g40⟩ := d40.fn X G
  cases hfa.symm.trans g40
  refine ⟨e40, fun s v => ?_, fun base _ _ => ?_⟩
  · obtain ⟨oc, od, kV, doc, pm, an, cdv, ct, osl, rfl, lk, hcd⟩ := F40.ex
    exact .of_eq rfl
  · have bd28 : Binds K e28 ["_law_box_here", "_law_below"] [] := b2 F28 fun _ _ _ _ _ _ _ _ => rfl
    have u28 : Cal l.prog w K mg base "_law_take" 1 ["_law_box_here", "_law_below"] spTake f28 e28 := ⟨ok_take F28, g28, F28.kp, bd28⟩
    have t28 : Cal l.prog w K mg base "_law_take" 2 ["_law_box_here", "_law_below"] (spD 2 p_law_take) f28 e28 := ⟨FnOk.imp (ok_takeW F28 u28) fun _ _ _ _ h => take_imp h, g28, F28.kp, bd28⟩
    have bd27 : Binds K e27 ["_law_script", "_law_k"] [] := b2 F27 fun _ _ _ _ _ _ _ _ => rfl
    have t27 : Cal l.prog w K mg base "_law_box" 1 ["_law_script", "_law_k"] (spBox K) f27 e27 := ⟨ok_box F27 B, g27, F27.kp, bd27⟩
    have bd1 : Binds K e1 ["value"] [] := b1 F1 fun _ _ _ _ _ _ _ => rfl
    have t1 : Cal l.prog w K mg base "kept" 1 ["value"] (spD 1 p_kept) f1 e1 := ⟨ok_kept F1 B     , g1, F1.kp, bd1⟩
    have bd6 : Binds K e6 ["pairs"] [] := b1 F6 fun _ _ _ _ _ _ _ => rfl
    have t6 : Cal l.prog w K mg base "state_of" 1 ["pairs"] (spD 1 p_state_of) f6 e6 := ⟨ok_state_of F6 B     , g6, F6.kp, bd6⟩
    have bd7 : Binds K e7 ["state", "person"] [] := b2 F7 fun _ _ _ _ _ _ _ _ => rfl
    have t7 : Cal l.prog w K mg base "check_person" 1 ["state", "person"] (spD 2 p_check_person) f7 e7 := ⟨ok_check_person F7 B     , g7, F7.kp, bd7⟩
    have bd8 : Binds K e8 ["pointers", "person"] [] := b2 F8 fun _ _ _ _ _ _ _ _ => rfl
    have t8 : Cal l.prog w K mg base "route_from" 1 ["pointers", "person"] (spD 2 p_route_from) f8 e8 := ⟨ok_route_from F8 B     , g8, F8.kp, bd8⟩
    have bd9 : Binds K e9 ["members", "first"] [] := b2 F9 fun _ _ _ _ _ _ _ _ => rfl
    have t9 : Cal l.prog w K mg base "turned" 1 ["members", "first"] (spD 2 p_turned) f9 e9 := ⟨ok_turned F9 B     , g9, F9.kp, bd9⟩
    have bd10 : Binds K e10 ["state", "route"] [] := b2 F10 fun _ _ _ _ _ _ _ _ => rfl
    have t10 : Cal l.prog w K mg base "ring_begin" 1 ["state", "route"] (spD 2 p_ring_begin) f10 e10 := ⟨ok_ring_begin F10 B     , g10, F10.kp, bd10⟩
    have bd11 : Binds K e11 ["state", "person"] [] := b2 F11 fun _ _ _ _ _ _ _ _ => rfl
    have t11 : Cal l.prog w K mg base "ring_of" 2 ["state", "person"] (spD 2 p_ring_of) f11 e11 := ⟨ok_ring_of F11 B t7 t8 t10 t9    , g11, F11.kp, bd11⟩
    have bd14 : Binds K e14 ["state", "other"] [] := b2 F14 fun _ _ _ _ _ _ _ _ => rfl
    have t14 : Cal l.prog w K mg base "check_size" 1 ["state", "other"] (spD 2 p_check_size) f14 e14 := ⟨ok_check_size F14 B     , g14, F14.kp, bd14⟩
    have bd15 : Binds K e15 ["ring", "start", "early", "late"] [] := b4 F15 fun _ _ _ _ _ _ _ _ _ _ => rfl
    have t15 : Cal l.prog w K mg base "meets_first" 2 ["ring", "start", "early", "late"] (spD 4 p_meets_first) f15 e15 := ⟨ok_meets_first F15 B t9    , g15, F15.kp, bd15⟩
    have bd16 : Binds K e16 ["members", "ring"] [] := b2 F16 fun _ _ _ _ _ _ _ _ => rfl
    have t16 : Cal l.prog w K mg base "order_broken" 3 ["members", "ring"] (spD 2 p_order_broken) f16 e16 := ⟨ok_order_broken F16 B t15    , g16, F16.kp, bd16⟩
    have bd18 : Binds K e18 ["laps"] [] := b1 F18 fun _ _ _ _ _ _ _ => rfl
    have t18 : Cal l.prog w K mg base "ring_state" 2 ["laps"] (spD 1 p_ring_state) f18 e18 := ⟨ok_ring_state F18 B t6    , g18, F18.kp, bd18⟩
    have bd21 : Binds K e21 ["one", "other", "person"] [] := b3 F21 fun _ _ _ _ _ _ _ _ _ => rfl
    have t21 : Cal l.prog w K mg base "shared_members" 3 ["one", "other", "person"] (spD 3 p_shared_members) f21 e21 := ⟨ok_shared_members F21 B t11 t9    , g21, F21.kp, bd21⟩
    have bd23 : Binds K e23 ["one_ring", "other_ring"] [] := b2 F23 fun _ _ _ _ _ _ _ _ => rfl
    have t23 : Cal l.prog w K mg base "merged" 1 ["one_ring", "other_ring"] (spD 2 p_merged) f23 e23 := ⟨ok_merged F23 B     , g23, F23.kp, bd23⟩
    have bd24 : Binds K e24 ["one", "other", "group"] [] := b3 F24 fun _ _ _ _ _ _ _ _ _ => rfl
    have t24 : Cal l.prog w K mg base "common_lap" 4 ["one", "other", "group"] (spD 3 p_common_lap) f24 e24 := ⟨ok_common_lap F24 B t11 t21 t9 t23    , g24, F24.kp, bd24⟩
    have bd29 : Binds K e29 ["_law_box_here", "_law_some"] [] := b2 F29 fun _ _ _ _ _ _ _ _ => rfl
    have t29 : Cal l.prog w K mg base "_law_pick" 3 ["_law_box_here", "_law_some"] (spD 2 p_law_pick) f29 e29 := ⟨ok_law_pick F29 B t28    , g29, F29.kp, bd29⟩
    have bd30 : Binds K e30 ["_law_box_here", "_law_some"] [] := b2 F30 fun _ _ _ _ _ _ _ _ => rfl
    have t30 : Cal l.prog w K mg base "_law_strewn" 3 ["_law_box_here", "_law_some"] (spD 2 p_law_strewn) f30 e30 := ⟨ok_law_strewn F30 B t28    , g30, F30.kp, bd30⟩
    have bd31 : Binds K e31 ["_law_box_here", "_law_length", "_law_kind"] [] := b3 F31 fun _ _ _ _ _ _ _ _ _ => rfl
    have t31 : Cal l.prog w K mg base "_law_net_of" 4 ["_law_box_here", "_law_length", "_law_kind"] (spD 3 p_law_net_of) f31 e31 := ⟨ok_law_net_of F31 B t30 t28    , g31, F31.kp, bd31⟩
    have bd32 : Binds K e32 ["_law_box_here", "_law_most"] [] := b2 F32 fun _ _ _ _ _ _ _ _ => rfl
    have t32 : Cal l.prog w K mg base "_law_any_net" 5 ["_law_box_here", "_law_most"] (spD 2 p_law_any_net) f32 e32 := ⟨ok_law_any_net F32 B t31 t28    , g32, F32.kp, bd32⟩
    have bd33 : Binds K e33 ["_law_net", "_law_who"] [] := b2 F33 fun _ _ _ _ _ _ _ _ => rfl
    have t33 : Cal l.prog w K mg base "_law_walk" 1 ["_law_net", "_law_who"] (spD 2 p_law_walk) f33 e33 := ⟨ok_law_walk F33 B     , g33, F33.kp, bd33⟩
    have bd34 : Binds K e34 ["_law_net"] [] := b1 F34 fun _ _ _ _ _ _ _ => rfl
    have t34 : Cal l.prog w K mg base "_law_ends" 2 ["_law_net"] (spD 1 p_law_ends) f34 e34 := ⟨ok_law_ends F34 B t33    , g34, F34.kp, bd34⟩
    have bd35 : Binds K e35 ["_law_net", "_law_who"] [] := b2 F35 fun _ _ _ _ _ _ _ _ => rfl
    have t35 : Cal l.prog w K mg base "_law_looked" 1 ["_law_net", "_law_who"] (spD 2 p_law_looked) f35 e35 := ⟨ok_law_looked F35 B     , g35, F35.kp, bd35⟩
    have bd36 : Binds K e36 ["_law_box_here", "_law_net", "_law_most"] [] := b3 F36 fun _ _ _ _ _ _ _ _ _ => rfl
    have t36 : Cal l.prog w K mg base "_law_toured" 3 ["_law_box_here", "_law_net", "_law_most"] (spD 3 p_law_toured) f36 e36 := ⟨ok_law_toured F36 B t28 t35    , g36, F36.kp, bd36⟩
    have bd37 : Binds K e37 ["_law_box_here", "_law_net"] [] := b2 F37 fun _ _ _ _ _ _ _ _ => rfl
    have t37 : Cal l.prog w K mg base "_law_within" 5 ["_law_box_here", "_law_net"] (spD 2 p_law_within) f37 e37 := ⟨ok_law_within F37 B t34 t31 t29    , g37, F37.kp, bd37⟩
    have bd38 : Binds K e38 ["_law_net", "_law_aim"] [] := b2 F38 fun _ _ _ _ _ _ _ _ => rfl
    have t38 : Cal l.prog w K mg base "_law_is_led" 3 ["_law_net", "_law_aim"] (spD 2 p_law_is_led) f38 e38 := ⟨ok_law_is_led F38 B t33 t34    , g38, F38.kp, bd38⟩
    have bd12 : Binds K e12 ["state"] [] := b1 F12 fun _ _ _ _ _ _ _ => rfl
    have t12 : Cal l.prog w K mg base "components" 3 ["state"] (spD 1 p_components) f12 e12 := ⟨FnOk.imp (ok_comps F12 B t11) fun _ _ _ _ h => comps_imp h, g12, F12.kp, bd12⟩
    have bd20 : Binds K e20 ["one", "other"] [] := b2 F20 fun _ _ _ _ _ _ _ _ => rfl
    have t20 : Cal l.prog w K mg base "people_bar" 4 ["one", "other"] (spD 2 p_people_bar) f20 e20 := ⟨ok_people_bar F20 B t12    , g20, F20.kp, bd20⟩
    have bd22 : Binds K e22 ["one", "other"] [] := b2 F22 fun _ _ _ _ _ _ _ _ => rfl
    have t22 : Cal l.prog w K mg base "past_bar" 5 ["one", "other"] (spD 2 p_past_bar) f22 e22 := ⟨ok_past_bar F22 B t14 t20 t12 t16 t11 t21    , g22, F22.kp, bd22⟩
    have bd25 : Binds K e25 ["one", "other"] [] := b2 F25 fun _ _ _ _ _ _ _ _ => rfl
    have t25 : Cal l.prog w K mg base "common_past" 6 ["one", "other"] (spD 2 p_common_past) f25 e25 := ⟨ok_common_past F25 B t22 t18 t12 t24    , g25, F25.kp, bd25⟩
    have bd39 : Binds K e39 ["_law_box_here"] [] := b1 F39 fun _ _ _ _ _ _ _ => rfl
    have t39 : Cal l.prog w K mg base "_law_right" 7 ["_law_box_here"] (spD 1 p_k42_law_right) f39 e39 := ⟨ok_law_right F39 B t32 t28 t36 t37 t22 t25 t38    (r2 F25 fun _ _ _ _ _ _ _ _ => rfl), g39, F39.kp, bd39⟩
    exact ok_law F40 B t27 t39
end Lp

open PySem PySem.W PyProof.Rows
set_option maxHeartbeats 0 in
theorem PySem.Challenge.cw_lookpast_k42_common_pasts_lead_to_both_holds : PySem.Challenge.rw_lookpast_k42_common_pasts_lead_to_both.Holds := by
  w_on; o_law; k_head; (case hw => w_witness2)
  k_fill
  refine L2.walk_of (l := PySem.Challenge.rw_lookpast_k42_common_pasts_lead_to_both) (n := 63) (k := 8) (x := "_law_script") (CX := fun _ => L2.CX0) (sp := fun w => Lp.spLaw _) rfl (by decide) rfl ⟨rfl, by decide, by decide⟩ (fun w h Y => PySem.W.kIn_of Y) ?F (fun _ _ a ns hl _ hS => ⟨a, ns, rfl, hS, hl, fun _ => rfl⟩) (fun _ _ _ _ _ h => h)
  case F =>
    intro w mg fa h KX G hmg
    refine' Lp.all_mk KX G hmg ?z ?d1 ?d6 ?d7 ?d8 ?d9 ?d10 ?d11 ?d12 ?d14 ?d15 ?d16 ?d18 ?d20 ?d21 ?d22 ?d23 ?d24 ?d25 ?d27 ?d28 ?d29 ?d30 ?d31 ?d32 ?d33 ?d34 ?d35 ?d36 ?d37 ?d38 ?d39 ?d40  
    (case z => refine' ⟨?_, ?_, ?_, ?_, ?_, ?_, ?_, ?_, ?_, ?_, ?_, ?_, ?_, ?_, ?_, ?_, ?_, ?_, ?_⟩ <;> k_is)
    (case d1 => refine' Lp.dx_mk ?a ?l ?c ?k; (case a => k_is); (case l => k_is); (case c => k_is); (case k => k_is))
    (case d6 => refine' Lp.dx_mk ?a ?l ?c ?k; (case a => k_is); (case l => k_is); (case c => k_is); (case k => k_is))
    (case d7 => refine' Lp.dx_mk ?a ?l ?c ?k; (case a => k_is); (case l => k_is); (case c => k_is); (case k => k_is))
    (case d8 => refine' Lp.dx_mk ?a ?l ?c ?k; (case a => k_is); (case l => k_is); (case c => k_is); (case k => k_is))
    (case d9 => refine' Lp.dx_mk ?a ?l ?c ?k; (case a => k_is); (case l => k_is); (case c => k_is); (case k => k_is))
    (case d10 => refine' Lp.dx_mk ?a ?l ?c ?k; (case a => k_is); (case l => k_is); (case c => k_is); (case k => k_is))
    (case d11 => refine' Lp.dx_mk ?a ?l ?c ?k; (case a => k_is); (case l => k_is); (case c => k_is); (case k => k_is))
    (case d12 => refine' Lp.dx_mk ?a ?l ?c ?k; (case a => k_is); (case l => k_is); (case c => k_is); (case k => k_is))
    (case d14 => refine' Lp.dx_mk ?a ?l ?c ?k; (case a => k_is); (case l => k_is); (case c => k_is); (case k => k_is))
    (case d15 => refine' Lp.dx_mk ?a ?l ?c ?k; (case a => k_is); (case l => k_is); (case c => k_is); (case k => k_is))
    (case d16 => refine' Lp.dx_mk ?a ?l ?c ?k; (case a => k_is); (case l => k_is); (case c => k_is); (case k => k_is))
    (case d18 => refine' Lp.dx_mk ?a ?l ?c ?k; (case a => k_is); (case l => k_is); (case c => k_is); (case k => k_is))
    (case d20 => refine' Lp.dx_mk ?a ?l ?c ?k; (case a => k_is); (case l => k_is); (case c => k_is); (case k => k_is))
    (case d21 => refine' Lp.dx_mk ?a ?l ?c ?k; (case a => k_is); (case l => k_is); (case c => k_is); (case k => k_is))
    (case d22 => refine' Lp.dx_mk ?a ?l ?c ?k; (case a => k_is); (case l => k_is); (case c => k_is); (case k => k_is))
    (case d23 => refine' Lp.dx_mk ?a ?l ?c ?k; (case a => k_is); (case l => k_is); (case c => k_is); (case k => k_is))
    (case d24 => refine' Lp.dx_mk ?a ?l ?c ?k; (case a => k_is); (case l => k_is); (case c => k_is); (case k => k_is))
    (case d25 => refine' Lp.dx_mk ?a ?l ?c ?k; (case a => k_is); (case l => k_is); (case c => k_is); (case k => k_is))
    (case d27 => refine' Lp.dx_mk ?a ?l ?c ?k; (case a => k_is); (case l => k_is); (case c => k_is); (case k => k_is))
    (case d28 => refine' Lp.dx_mk ?a ?l ?c ?k; (case a => k_is); (case l => k_is); (case c => k_is); (case k => k_is))
    (case d29 => refine' Lp.dx_mk ?a ?l ?c ?k; (case a => k_is); (case l => k_is); (case c => k_is); (case k => k_is))
    (case d30 => refine' Lp.dx_mk ?a ?l ?c ?k; (case a => k_is); (case l => k_is); (case c => k_is); (case k => k_is))
    (case d31 => refine' Lp.dx_mk ?a ?l ?c ?k; (case a => k_is); (case l => k_is); (case c => k_is); (case k => k_is))
    (case d32 => refine' Lp.dx_mk ?a ?l ?c ?k; (case a => k_is); (case l => k_is); (case c => k_is); (case k => k_is))
    (case d33 => refine' Lp.dx_mk ?a ?l ?c ?k; (case a => k_is); (case l => k_is); (case c => k_is); (case k => k_is))
    (case d34 => refine' Lp.dx_mk ?a ?l ?c ?k; (case a => k_is); (case l => k_is); (case c => k_is); (case k => k_is))
    (case d35 => refine' Lp.dx_mk ?a ?l ?c ?k; (case a => k_is); (case l => k_is); (case c => k_is); (case k => k_is))
    (case d36 => refine' Lp.dx_mk ?a ?l ?c ?k; (case a => k_is); (case l => k_is); (case c => k_is); (case k => k_is))
    (case d37 => refine' Lp.dx_mk ?a ?l ?c ?k; (case a => k_is); (case l => k_is); (case c => k_is); (case k => k_is))
    (case d38 => refine' Lp.dx_mk ?a ?l ?c ?k; (case a => k_is); (case l => k_is); (case c => k_is); (case k => k_is))
    (case d39 => refine' Lp.dx_mk ?a ?l ?c ?k; (case a => k_is); (case l => k_is); (case c => k_is); (case k => k_is))
    (case d40 => refine' Lp.dx_mk ?a ?l ?c ?k; (case a => k_is); (case l => k_is); (case c => k_is); (case k => k_is))


